import PyProof.Rows.All
import Wide.All
import OpenK.AllK
import Wide.FinOn
import HandS.ForMost
import HandS.ForExc
import HandS.IsInst
import HandS.Walk
import HandS.Codes
import HandS.HeadHook2
import HandS.Head2
import HandS.HeadEnd
import HandS.HeadHook4
import HandS.HeadWalk
import HandS.Lambda
import KE.KDflt
import HandS.TryMany
import HandS.TryOnly
import HandS.ExcIs
import HandS.StrMore
import HandS.Wide
import HandS.WideBits
import HandS.Small
import HandS.Defaults
import HandS.Evl
import HandS.Strs
import HandS.CallLocal
import HandS.Iter
import KE.GoesMore
import HandS.SetFor
import HandS.SortInts
import HandS.Zip
import HandS.SuiteRaise
import HandS.WordsExc
import HandS.DictComp
import PyProof.CompUse
import PySem.Challenge.RW_typegate_k13_needed_places
set_option Elab.async false
set_option linter.all false
set_option maxRecDepth 100000
set_option maxHeartbeats 4000000
set_option autoImplicit false
namespace N8H
open PySem PySem.Spec PyProof.Rows L2
def topS (i : Nat) : Stmt := PySem.Challenge.pw_typegate_k13_needed_places.main.body.getD i (.Pass ⟨0, 0, 0, 0⟩)
def inCls (s : Stmt) : List Stmt := match s with | .ClassDef (body := rows) .. => rows | _ => []
abbrev sAgrees : Stmt := topS 42
abbrev sAscends : Stmt := topS 43
abbrev sClassFileInit : Stmt := (inCls (topS 55)).getD 0 (.Pass ⟨0, 0, 0, 0⟩)
abbrev sCodeInit : Stmt := (inCls (topS 56)).getD 0 (.Pass ⟨0, 0, 0, 0⟩)
abbrev sFieldEnd : Stmt := topS 26
abbrev sHasRightPairs : Stmt := topS 44
abbrev sHasSort : Stmt := topS 38
abbrev sInOrder : Stmt := topS 60
abbrev sIsClassName : Stmt := topS 18
abbrev sIsConstant : Stmt := topS 63
abbrev sIsField : Stmt := topS 62
abbrev sIsFieldDescriptor : Stmt := topS 20
abbrev sIsFrame : Stmt := topS 69
abbrev sIsHandler : Stmt := topS 67
abbrev sIsInstruction : Stmt := topS 37
abbrev sIsInteger : Stmt := topS 1
abbrev sIsMethod : Stmt := topS 64
abbrev sIsMethodDescriptor : Stmt := topS 21
abbrev sIsMethodName : Stmt := topS 19
abbrev sIsName : Stmt := topS 16
abbrev sIsNameSign : Stmt := topS 17
abbrev sIsPair : Stmt := topS 40
abbrev sIsRow : Stmt := topS 3
abbrev sIsRowOfEntries : Stmt := topS 70
abbrev sIsRowOfFlags : Stmt := topS 59
abbrev sIsString : Stmt := topS 41
abbrev sIsText : Stmt := topS 32
abbrev sIsTold : Stmt := topS 39
abbrev sIsTupleOf : Stmt := topS 4
abbrev sIsWhole : Stmt := topS 74
abbrev sIsWithin : Stmt := topS 2
abbrev sKept : Stmt := topS 46
abbrev sKeptFrames : Stmt := topS 68
abbrev sKeptHandlers : Stmt := topS 66
abbrev sKeptInterfaces : Stmt := topS 58
abbrev sKeptMembers : Stmt := topS 61
abbrev sKeptRows : Stmt := topS 65
abbrev sLaw : Stmt := topS 82
abbrev sLawCode : Stmt := topS 80
abbrev sLawDraw : Stmt := topS 77
abbrev sLawOne : Stmt := topS 78
abbrev sLawRow : Stmt := topS 79
abbrev sLawSaid : Stmt := topS 81
abbrev sLawWell : Stmt := topS 76
abbrev sMethodParts : Stmt := topS 25
abbrev sNeeded : Stmt := topS 73
abbrev sPlacesOf : Stmt := topS 23
abbrev sTargets : Stmt := topS 45
def signsL : List Nat := [32, 33, 34, 35, 36, 38, 39, 40, 41, 42, 43, 44, 45, 46, 47, 48, 49, 50, 51, 52, 53, 54, 55, 56, 57, 58, 59, 60, 61, 62, 63, 64, 65, 66, 67, 68, 69, 70, 71, 72, 73, 74, 75, 76, 77, 78, 79, 80, 81, 82, 83, 84, 85, 86, 87, 88, 89, 90, 91, 92, 93, 94, 95, 96, 97, 98, 99, 100, 101, 102, 103, 104, 105, 106, 107, 108, 109, 110, 111, 112, 113, 114, 115, 116, 117, 118, 119, 120, 121, 122, 123, 124, 125, 126]
def flags9 : List Str := ["public", "private", "protected", "static", "final", "synchronized", "abstract", "interface", "native"]
def lastW : List Str := ["goto", "switch", "athrow", "ireturn", "lreturn", "areturn", "return"]
def ones : List Str := ["nop", "ireturn", "return", "athrow", "areturn", "lreturn", "dup", "pop"]
def jmps : List Str := ["goto", "ifeq", "ifnull", "if_icmplt", "if_acmpne", "ifnonnull", "ifge", "if_icmple", "if_acmpeq"]
def wordsL : List (Str × List Str) := (ones.map fun z => ((z, []) : Str × List Str)) ++ ((jmps.map fun z => ((z, ["jump"]) : Str × List Str)) ++ ([("switch", ["pairs", "jump"]), ("iconst", ["int"]), ("iload", ["local"]), ("invokestatic", ["class", "name", "method"]), ("new", ["class"])] : List (Str × List Str)))
def cl (K : PySem.W.Frag) (x : Str) : Addr := He.ga K x
def dIsNameSign : He.DefD := ⟨("_is_name_sign", none), "_is_name_sign", "_is_name_sign", L2.defArgs sIsNameSign, L2.defBody sIsNameSign, L2.defScope sIsNameSign, [], []⟩
def dIsName : He.DefD := ⟨("is_name", none), "is_name", "is_name", L2.defArgs sIsName, L2.defBody sIsName, L2.defScope sIsName, [], []⟩
def dIsClassName : He.DefD := ⟨("is_class_name", none), "is_class_name", "is_class_name", L2.defArgs sIsClassName, L2.defBody sIsClassName, L2.defScope sIsClassName, [], []⟩
def dFieldEnd : He.DefD := ⟨("_field_end", none), "_field_end", "_field_end", L2.defArgs sFieldEnd, L2.defBody sFieldEnd, L2.defScope sFieldEnd, [], []⟩
def dIsFieldDescriptor : He.DefD := ⟨("is_field_descriptor", none), "is_field_descriptor", "is_field_descriptor", L2.defArgs sIsFieldDescriptor, L2.defBody sIsFieldDescriptor, L2.defScope sIsFieldDescriptor, [], []⟩
def dPlacesOf : He.DefD := ⟨("places_of", none), "places_of", "places_of", L2.defArgs sPlacesOf, L2.defBody sPlacesOf, L2.defScope sPlacesOf, [], []⟩
def dMethodParts : He.DefD := ⟨("_method_parts", none), "_method_parts", "_method_parts", L2.defArgs sMethodParts, L2.defBody sMethodParts, L2.defScope sMethodParts, [], []⟩
def dIsInteger : He.DefD := ⟨("is_integer", none), "is_integer", "is_integer", L2.defArgs sIsInteger, L2.defBody sIsInteger, L2.defScope sIsInteger, [], []⟩
def dIsRow : He.DefD := ⟨("is_row", none), "is_row", "is_row", L2.defArgs sIsRow, L2.defBody sIsRow, L2.defScope sIsRow, [], []⟩
def dIsTupleOf : He.DefD := ⟨("is_tuple_of", none), "is_tuple_of", "is_tuple_of", L2.defArgs sIsTupleOf, L2.defBody sIsTupleOf, L2.defScope sIsTupleOf, [], []⟩
def dIsWithin : He.DefD := ⟨("is_within", none), "is_within", "is_within", L2.defArgs sIsWithin, L2.defBody sIsWithin, L2.defScope sIsWithin, [], []⟩
def dIsRowOfFlags : He.DefD := ⟨("_is_row_of_flags", none), "_is_row_of_flags", "_is_row_of_flags", L2.defArgs sIsRowOfFlags, L2.defBody sIsRowOfFlags, L2.defScope sIsRowOfFlags, [], []⟩
def dInOrder : He.DefD := ⟨("_in_order", none), "_in_order", "_in_order", L2.defArgs sInOrder, L2.defBody sInOrder, L2.defScope sInOrder, [], []⟩
def dIsText : He.DefD := ⟨("is_text", none), "is_text", "is_text", L2.defArgs sIsText, L2.defBody sIsText, L2.defScope sIsText, [], []⟩
def dIsString : He.DefD := ⟨("is_string", none), "is_string", "is_string", L2.defArgs sIsString, L2.defBody sIsString, L2.defScope sIsString, [], []⟩
def dIsConstant : He.DefD := ⟨("_is_constant", none), "_is_constant", "_is_constant", L2.defArgs sIsConstant, L2.defBody sIsConstant, L2.defScope sIsConstant, [], []⟩
def dIsMethodName : He.DefD := ⟨("is_method_name", none), "is_method_name", "is_method_name", L2.defArgs sIsMethodName, L2.defBody sIsMethodName, L2.defScope sIsMethodName, [], []⟩
def dIsMethodDescriptor : He.DefD := ⟨("is_method_descriptor", none), "is_method_descriptor", "is_method_descriptor", L2.defArgs sIsMethodDescriptor, L2.defBody sIsMethodDescriptor, L2.defScope sIsMethodDescriptor, [], []⟩
def dIsField : He.DefD := ⟨("_is_field", none), "_is_field", "_is_field", L2.defArgs sIsField, L2.defBody sIsField, L2.defScope sIsField, [], []⟩
def dIsMethod : He.DefD := ⟨("_is_method", none), "_is_method", "_is_method", L2.defArgs sIsMethod, L2.defBody sIsMethod, L2.defScope sIsMethod, [], []⟩
def dKeptInterfaces : He.DefD := ⟨("_kept_interfaces", none), "_kept_interfaces", "_kept_interfaces", L2.defArgs sKeptInterfaces, L2.defBody sKeptInterfaces, L2.defScope sKeptInterfaces, [], []⟩
def dKeptMembers : He.DefD := ⟨("_kept_members", none), "_kept_members", "_kept_members", L2.defArgs sKeptMembers, L2.defBody sKeptMembers, L2.defScope sKeptMembers, [], []⟩
def dClassFileInit : He.DefD := ⟨("ClassFile", some "__init__"), "__init__", "ClassFile.__init__", L2.defArgs sClassFileInit, L2.defBody sClassFileInit, L2.defScope sClassFileInit, [], []⟩
def dLawWell : He.DefD := ⟨("_law_well", none), "_law_well", "_law_well", L2.defArgs sLawWell, L2.defBody sLawWell, L2.defScope sLawWell, [], []⟩
def dLawDraw : He.DefD := ⟨("_law_draw", none), "_law_draw", "_law_draw", L2.defArgs sLawDraw, L2.defBody sLawDraw, L2.defScope sLawDraw, [], []⟩
def dLawOne : He.DefD := ⟨("_law_one", none), "_law_one", "_law_one", L2.defArgs sLawOne, L2.defBody sLawOne, L2.defScope sLawOne, [], []⟩
def dIsTold : He.DefD := ⟨("_is_told", none), "_is_told", "_is_told", L2.defArgs sIsTold, L2.defBody sIsTold, L2.defScope sIsTold, [], []⟩
def dHasSort : He.DefD := ⟨("_has_sort", none), "_has_sort", "_has_sort", L2.defArgs sHasSort, L2.defBody sHasSort, L2.defScope sHasSort, [], []⟩
def dIsPair : He.DefD := ⟨("_is_pair", none), "_is_pair", "_is_pair", L2.defArgs sIsPair, L2.defBody sIsPair, L2.defScope sIsPair, [], []⟩
def dAgrees : He.DefD := ⟨("_agrees", none), "_agrees", "_agrees", L2.defArgs sAgrees, L2.defBody sAgrees, L2.defScope sAgrees, [], []⟩
def dIsInstruction : He.DefD := ⟨("is_instruction", none), "is_instruction", "is_instruction", L2.defArgs sIsInstruction, L2.defBody sIsInstruction, L2.defScope sIsInstruction, [], []⟩
def dAscends : He.DefD := ⟨("ascends", none), "ascends", "ascends", L2.defArgs sAscends, L2.defBody sAscends, L2.defScope sAscends, [], []⟩
def dHasRightPairs : He.DefD := ⟨("has_right_pairs", none), "has_right_pairs", "has_right_pairs", L2.defArgs sHasRightPairs, L2.defBody sHasRightPairs, L2.defScope sHasRightPairs, [], []⟩
def dTargets : He.DefD := ⟨("targets", none), "targets", "targets", L2.defArgs sTargets, L2.defBody sTargets, L2.defScope sTargets, [], []⟩
def dKept : He.DefD := ⟨("kept", none), "kept", "kept", L2.defArgs sKept, L2.defBody sKept, L2.defScope sKept, [], []⟩
def dKeptRows : He.DefD := ⟨("_kept_rows", none), "_kept_rows", "_kept_rows", L2.defArgs sKeptRows, L2.defBody sKeptRows, L2.defScope sKeptRows, [], []⟩
def dIsHandler : He.DefD := ⟨("_is_handler", none), "_is_handler", "_is_handler", L2.defArgs sIsHandler, L2.defBody sIsHandler, L2.defScope sIsHandler, [], []⟩
def dKeptHandlers : He.DefD := ⟨("_kept_handlers", none), "_kept_handlers", "_kept_handlers", L2.defArgs sKeptHandlers, L2.defBody sKeptHandlers, L2.defScope sKeptHandlers, [], []⟩
def dIsRowOfEntries : He.DefD := ⟨("_is_row_of_entries", none), "_is_row_of_entries", "_is_row_of_entries", L2.defArgs sIsRowOfEntries, L2.defBody sIsRowOfEntries, L2.defScope sIsRowOfEntries, [], []⟩
def dIsFrame : He.DefD := ⟨("_is_frame", none), "_is_frame", "_is_frame", L2.defArgs sIsFrame, L2.defBody sIsFrame, L2.defScope sIsFrame, [], []⟩
def dKeptFrames : He.DefD := ⟨("_kept_frames", none), "_kept_frames", "_kept_frames", L2.defArgs sKeptFrames, L2.defBody sKeptFrames, L2.defScope sKeptFrames, [], []⟩
def dCodeInit : He.DefD := ⟨("Code", some "__init__"), "__init__", "Code.__init__", L2.defArgs sCodeInit, L2.defBody sCodeInit, L2.defScope sCodeInit, [], []⟩
def dIsWhole : He.DefD := ⟨("_is_whole", none), "_is_whole", "_is_whole", L2.defArgs sIsWhole, L2.defBody sIsWhole, L2.defScope sIsWhole, [], []⟩
def dNeeded : He.DefD := ⟨("needed", none), "needed", "needed", L2.defArgs sNeeded, L2.defBody sNeeded, L2.defScope sNeeded, [], []⟩
def dLawRow : He.DefD := ⟨("_law_row", none), "_law_row", "_law_row", L2.defArgs sLawRow, L2.defBody sLawRow, L2.defScope sLawRow, [], []⟩
def dLawCode : He.DefD := ⟨("_law_code", none), "_law_code", "_law_code", L2.defArgs sLawCode, L2.defBody sLawCode, L2.defScope sLawCode, [], []⟩
def dLaw : He.DefD := ⟨("law", none), "law", "law", L2.defArgs sLaw, L2.defBody sLaw, L2.defScope sLaw, [], []⟩
def dLawSaid : He.DefD := ⟨("_law_said", none), "_law_said", "_law_said", L2.defArgs sLawSaid, L2.defBody sLawSaid, L2.defScope sLawSaid, [], []⟩
def fnL : List He.DefD := [dIsNameSign, dIsName, dIsClassName, dFieldEnd, dIsFieldDescriptor, dPlacesOf, dMethodParts, dIsInteger, dIsRow, dIsTupleOf, dIsWithin, dIsRowOfFlags, dInOrder, dIsText, dIsString, dIsConstant, dIsMethodName, dIsMethodDescriptor, dIsField, dIsMethod, dKeptInterfaces, dKeptMembers, dClassFileInit, dLawWell, dLawDraw, dLawOne, dIsTold, dHasSort, dIsPair, dAgrees, dIsInstruction, dAscends, dHasRightPairs, dTargets, dKept, dKeptRows, dIsHandler, dKeptHandlers, dIsRowOfEntries, dIsFrame, dKeptFrames, dCodeInit, dIsWhole, dNeeded, dLawRow, dLawCode, dLaw, dLawSaid]
def faL : List He.Fa := [.glo "_is_name_sign", .glo "is_name", .glo "is_class_name", .glo "_field_end", .glo "is_field_descriptor", .glo "places_of", .glo "_method_parts", .glo "is_integer", .glo "is_row", .glo "is_tuple_of", .glo "is_within", .glo "_is_row_of_flags", .glo "_in_order", .glo "is_text", .glo "is_string", .glo "_is_constant", .glo "is_method_name", .glo "is_method_descriptor", .glo "_is_field", .glo "_is_method", .glo "_kept_interfaces", .glo "_kept_members", .glo "_law_well", .glo "_law_draw", .glo "_law_one", .glo "_is_told", .glo "_has_sort", .glo "_is_pair", .glo "_agrees", .glo "is_instruction", .glo "ascends", .glo "has_right_pairs", .glo "targets", .glo "kept", .glo "_kept_rows", .glo "_is_handler", .glo "_kept_handlers", .glo "_is_row_of_entries", .glo "_is_frame", .glo "_kept_frames", .glo "_is_whole", .glo "needed", .glo "_law_row", .glo "_law_code", .glo "law", .glo "_law_said", .free "isinstance", .free "str", .free "len", .free "all", .free "sum", .free "int", .free "range", .free "bool", .free "list", .free "tuple", .free "set", .free "ord", .free "sorted", .free "enumerate", .free "any", .free "max", .free "zip", .int "LONGEST_NAME" 30, .int "LONGEST_CLASS_NAME" 60, .int "MOST_BRACKETS" 5, .int "MOST_PARAMETER_PLACES" 254, .int "MOST_PLACES" 255, .int "MOST_ROWS" 65535, .int "MOST_ENTRIES" 255, .int "LONGEST_STRING" 200, .int "LEAST_LONG" (-9223372036854775808), .int "GREATEST_LONG" 9223372036854775807, .str "SIGNS" (SX.S signsL), .glo "FLAGS", .glo "LAST_WORDS", .glo "LETTERS", .glo "ARGUMENTS", .glo "BOUNDS", .glo "ClassFile", .glo "Code", .glo "Uncut", .glo "NoForm", .glo "NoCode", .cls "ClassFile", .cls "Code", .cls "Uncut", .noat "ClassFile" "name", .noat "ClassFile" "parent", .noat "ClassFile" "interfaces", .noat "ClassFile" "flags", .noat "ClassFile" "fields", .noat "ClassFile" "methods", .noat "Code" "stack", .noat "Code" "places", .noat "Code" "rows", .noat "Code" "handlers", .noat "Code" "frames", .mkr "ClassFile", .mkr "Code", .exc "NoCode", .exm "NoCode" "NoCode" true]
def tfL : List He.Defn := [("law", none)]
def keysA : List Str := (["aconst_null", "iconst", "lconst", "string", "class", "iload", "lload", "aload", "istore", "lstore", "astore", "iinc"] : List Str) ++ (["iadd", "isub", "imul", "idiv", "irem", "ineg", "iand", "ior", "ixor", "ishl", "ishr", "iushr"] : List Str) ++ (["ladd", "lsub", "lmul", "ldiv", "lrem", "lneg", "land", "lor", "lxor", "lshl", "lshr", "lushr"] : List Str) ++ (["i2l", "l2i", "i2b", "i2c", "i2s", "lcmp", "ifeq", "ifne", "iflt", "ifge", "ifgt", "ifle"] : List Str) ++ (["if_icmpeq", "if_icmpne", "if_icmplt", "if_icmpge", "if_icmpgt", "if_icmple", "if_acmpeq", "if_acmpne", "ifnull", "ifnonnull", "goto", "switch"] : List Str) ++ (["getstatic", "putstatic", "getfield", "putfield", "invokevirtual", "invokespecial", "invokestatic", "invokeinterface", "invokespecial_i", "invokestatic_i", "new", "newarray"] : List Str) ++ (["anewarray", "multianewarray", "arraylength", "iaload", "laload", "aaload", "baload", "caload", "saload", "iastore", "lastore", "aastore"] : List Str) ++ (["bastore", "castore", "sastore", "checkcast", "instanceof", "athrow", "monitorenter", "monitorexit", "nop", "pop", "pop2", "dup"] : List Str) ++ (["dup_x1", "dup_x2", "dup2", "dup2_x1", "dup2_x2", "swap", "ireturn", "lreturn", "areturn", "return"] : List Str)
def keysB : List Str := (["int", "long", "short", "local", "count"] : List Str)
def tsL : List He.Tab := [(fun K => He.ga K "ARGUMENTS", keysA), (fun K => He.ga K "BOUNDS", keysB)]
/-- a tuple of these stands at t -/
def isTup (K : PySem.W.Frag) (xs : List V) : Option (Option Value) → Bool
  | some (some (.ref t)) => (match K.lookup t with
    | some ⟨.type c, _, .seq its _, _⟩ => decide (c = "tuple") && (decide (its.size ≤ sizeLine) && He.relAll xs its.toList)
    | _ => false)
  | _ => false
theorem isTup_ok {K : PySem.W.Frag} {xs : List V} {o : Option (Option Value)} (h : isTup K xs o = true) : ∃ t, o = some (some (.ref t)) ∧ ∀ H, SqT K H t xs := by
  unfold isTup at h
  split at h
  · rename_i t
    split at h
    · rename_i c od its n sl e
      obtain ⟨h1, h2⟩ := He.ba h
      obtain ⟨h3, h4⟩ := He.ba h2
      exact ⟨t, rfl, fun H => .inr ⟨_, its, n, e, congrArg Value.type (of_decide_eq_true h1), rfl, of_decide_eq_true h3, He.relAll_ok h4⟩⟩
    · cases h
  · cases h
def insB (K : PySem.W.Frag) (C : Addr) : Bool := He.eqO (PySem.W.findIn K (.ref C) "__class__") (some (some (.builtin "object.__class__"))) && (He.eqO (PySem.W.specialIn K (.builtin "object.__class__") "__get__") (some (some (.builtin "getset_descriptor.__get__"))) && (decide (PySem.W.takesIn K (.builtin "object.__class__") = some true) && (decide (PySem.W.mroIn K C (.type "object") = some true) && decide (PySem.W.kitOne K (.ref C) (.ref C) = some true))))

def kindsL : List String := ["NoneType", "int", "list", "tuple", "str", "dict", "bool"]
def kitsB (K : PySem.W.Frag) : Bool := (kindsL.all fun T => decide (PySem.W.kitOne K (.type T) (.ref (cl K "Code")) = some false)) && decide (PySem.W.kitOne K (.ref (cl K "ClassFile")) (.ref (cl K "Code")) = some false)
def apartB (K : PySem.W.Frag) : Bool := decide (cl K "ClassFile" ≠ cl K "Code") && (decide (cl K "ClassFile" ≠ cl K "Uncut") && decide (He.ga K "_is_method" ≠ He.ga K "_is_field"))
def argsB (K : PySem.W.Frag) : Bool := (wordsL.all fun q => isTup K (q.2.map V.str) (PySem.W.nsIn K (He.ga K "ARGUMENTS") q.1)) && (isTup K [.int (-2147483648), .int 2147483647] (PySem.W.nsIn K (He.ga K "BOUNDS") "int") && (isTup K [.int 0, .int 255] (PySem.W.nsIn K (He.ga K "BOUNDS") "local") && (["jump", "pairs", "class", "name", "method"] : List Str).all fun z => He.eqO (PySem.W.nsIn K (He.ga K "BOUNDS") z) (some none)))
def tupL : List (Str × List Str) := [("LETTERS", ["Z", "B", "S", "C", "I", "J"]), ("FLAGS", flags9), ("LAST_WORDS", lastW)]
def tupsB (K : PySem.W.Frag) : Bool := tupL.all fun q => He.tupB K q.1 (q.2.map He.Dv.str)
def exL (K : PySem.W.Frag) : Bool := tupsB K && (argsB K && (apartB K && (kitsB K && (insB K (cl K "ClassFile") && (insB K (cl K "Code") && (insB K (cl K "Uncut") && decide (PySem.W.kitOne K (.ref (cl K "Uncut")) (.ref (cl K "Code")) = some false)))))))
def asL : List Addr := ([3, 6, 4, 21, 28, 35, 42, 52, 65, 84, 96, 99, 104, 111, 116, 123, 130, 137, 144, 149, 156, 163, 170, 171, 178, 183, 184, 297, 307, 312, 319, 326, 333, 340, 345, 350, 355, 362, 363, 364] : List Addr) ++ ([388, 416, 444, 455, 460, 465, 470, 477, 484, 491, 496, 503, 510, 515, 522, 527, 528, 533, 540, 547, 554, 561, 566, 571, 578, 583, 0, 20, 27, 34, 41, 51, 64, 83, 95, 103, 110, 115, 122, 129] : List Addr) ++ ([136, 143, 148, 155, 162, 169, 177, 182, 185, 186, 187, 188, 189, 190, 191, 192, 193, 194, 195, 196, 197, 198, 199, 200, 201, 203, 204, 205, 206, 207, 208, 209, 210, 211, 212, 213, 214, 215, 216, 217] : List Addr) ++ ([218, 219, 221, 222, 223, 224, 225, 226, 227, 228, 229, 230, 231, 232, 233, 234, 235, 236, 237, 239, 240, 241, 242, 243, 244, 245, 246, 247, 248, 249, 250, 251, 252, 253, 254, 255, 257, 258, 259, 260] : List Addr) ++ ([261, 262, 263, 264, 265, 266, 267, 268, 269, 270, 271, 272, 273, 275, 276, 277, 278, 279, 280, 281, 282, 283, 284, 285, 286, 287, 288, 289, 290, 291, 293, 294, 295, 296, 298, 299, 300, 301, 302, 306] : List Addr) ++ ([311, 318, 325, 332, 339, 344, 349, 354, 361, 387, 415, 443, 454, 459, 464, 469, 476, 483, 490, 495, 502, 509, 514, 521, 526, 532, 539, 546, 553, 560, 565, 570, 577, 582, 15, 16, 17, 18, 19, 22] : List Addr) ++ ([23, 24, 25, 26, 29, 30, 31, 32, 33, 36, 37, 38, 39, 40, 50, 53, 63, 81, 82, 94, 100, 101, 102, 105, 106, 107, 108, 109, 112, 113, 114, 117, 118, 119, 120, 121, 124, 125, 126, 127] : List Addr) ++ ([128, 131, 132, 133, 134, 135, 138, 139, 140, 141, 142, 145, 146, 147, 150, 151, 152, 153, 154, 157, 158, 159, 160, 161, 164, 165, 166, 167, 168, 172, 173, 174, 175, 176, 179, 180, 181, 303, 304, 305] : List Addr) ++ ([308, 309, 310, 313, 314, 315, 316, 317, 320, 321, 322, 323, 324, 327, 328, 329, 330, 331, 334, 335, 336, 337, 338, 341, 342, 343, 346, 347, 348, 351, 352, 353, 356, 357, 358, 359, 360, 378, 385, 386] : List Addr) ++ ([389, 390, 406, 413, 414, 417, 418, 434, 441, 442, 445, 446, 449, 450, 451, 452, 453, 456, 457, 458, 461, 462, 463, 466, 467, 468, 471, 472, 473, 474, 475, 478, 479, 480, 481, 482, 485, 486, 487, 488] : List Addr) ++ ([489, 492, 493, 494, 497, 498, 499, 500, 501, 504, 505, 506, 507, 508, 511, 512, 513, 516, 517, 518, 519, 520, 523, 524, 525, 529, 530, 531, 534, 535, 536, 537, 538, 541, 542, 543, 544, 545, 548, 549] : List Addr) ++ ([550, 551, 552, 555, 556, 557, 558, 559, 562, 563, 564, 567, 568, 569, 572, 573, 574, 575, 576, 579, 580, 581, 80, 377, 384, 405, 412, 433, 440] : List Addr)
abbrev AlQ : Type := He.AlT × Bool
def obsG (g : Addr → Option Obj) : AlQ := (He.obsT faL fnL tsL (He.frT g asL), exL (He.frT g asL) && He.tabsB g tfL (He.frT g asL))
def obsQ (s : Shared) : AlQ := match HandSHeadRun.putAll s.heap.objs.toList .nil 0 with
  | some (t, n) => obsG (HandSHeadRun.getT ⟨t, n, s.heap.life, s.gens, s.drawn, s.toks, s.os⟩)
  | none => obsG s.heap.get?
theorem obsQ_eq (s : Shared) : obsQ s = obsG s.heap.get? := by
  unfold obsQ
  cases e : HandSHeadRun.putAll s.heap.objs.toList .nil 0 with
  | none => rfl
  | some r =>
    obtain ⟨t, n⟩ := r
    have h : HandSHeadRun.getT ⟨t, n, s.heap.life, s.gens, s.drawn, s.toks, s.os⟩ = s.heap.get? := by
      funext a
      rw [HandSHeadRun.getT_eq]
      show (PySem.W.absHeap t n s.heap.life).get? a = _
      rw [HandSHeadRun.putAll_heap e]
    show obsG _ = _
    rw [h]
abbrev frA (h : Heap) : PySem.W.Frag := He.frT h.get? asL
theorem saysA {w : World} {h : Heap} (e : obsG h.get? = (He.valT fnL tsL w, true)) : He.SaysX faL fnL tsL tfL exL w h (frA h) := by
  have z0 : (exL (frA h) && He.tabsB h.get? tfL (frA h)) = true := congrArg Prod.snd e
  have z := He.ba z0
  have at_ : ∀ p ∈ tfL, PySem.W.codeHdIn (frA h) (He.cT (frA h) p).1 (He.cT (frA h) p).2 = true ∧ ∃ o, h.get? (He.cT (frA h) p).2 = some o ∧ He.emptyTab o = true := fun p hp => by
    have y := He.ba (List.all_eq_true.mp z.2 p hp)
    refine ⟨y.1, ?_⟩
    have y2 := y.2
    split at y2
    · rename_i o q
      exact ⟨o, q, y2⟩
    · cases y2
  refine ⟨congrArg Prod.fst e, z.1, fun p hp => (at_ p hp).1, fun p hp => ?_, fun p hp => ?_⟩
  · obtain ⟨o, q, y⟩ := (at_ p hp).2
    exact He.frT_none q y
  · obtain ⟨o, q, y⟩ := (at_ p hp).2
    rw [q, He.emptyTab_eq y]
def SaysQ (w : World) (h : Heap) : Prop := ∃ K : PySem.W.Frag, K.In h ∧ He.SaysX faL fnL tsL tfL exL w h K
def hkT : PySem.W.Hook where
  α := AlQ
  obs := obsQ
  val := fun w => (He.valT fnL tsL w, true)
  says := SaysQ
  of := fun w s e => ⟨frA s.heap, He.frT_in, saysA (by rw [← obsQ_eq]; exact e)⟩
  keeps := fun _ _ _ ⟨K, hK, c⟩ k => ⟨K, PySem.W.Frag.In.keeps hK k, ⟨c.t, c.more, c.hd, c.out, fun p hp => k _ _ (c.empty p hp)⟩⟩
end N8H

set_option autoImplicit true
set_option maxHeartbeats 4000000
/-! Lambdas as values: made, with a default or without, kept, called later. -/
namespace LD
open PySem PySem.Spec PyProof.Rows L2 LamX
/-- what stands at f is this object -/
def Just (f : Addr) (o : Obj) : HO := .ext fun h => h.get? f = some o
theorem just_ok {P : Program} {w : World} {H : Hp} {h : Heap} {f : Addr} {o : Obj} (e : h.get? f = some o) : ObjOk P w H h f (Just f o) := ⟨e, ⟨o, e⟩, fun _ _ p st => st o p⟩
theorem just_tbl {f : Addr} {o : Obj} (ps : Array Value) : Just f o ≠ .tbl ps := fun z => by
  unfold Just at z
  cases z
abbrev lamO (q : Str) (params : Arguments) (body : Expr) (scope : Scope) (cl : List (Str × Addr)) (dV doc pm : Value) (c' : Addr) (ctv : Value) : Obj := PySem.W.kdv_obj "<lambda>" q params (.expr body) scope cl dV doc pm c' ctv
def DfO (H : Hp) (dV : Value) (dvs : List V) : Prop := (dvs = [] ∧ dV = .none) ∨ ∃ (t : Addr) (x : V) (u : Value), dvs = [x] ∧ dV = .ref t ∧ H t = some (Just t { cls := .type "tuple", data := .seq [u].toArray }) ∧ RelV x u
/-- f is a lambda that was made in this frame -/
def Made (H : Hp) (q : Str) (cells : List (Str × Addr)) (params : Arguments) (body : Expr) (scope : Scope) (dvs : List V) (f : Addr) : Prop :=
  ∃ dV doc pm c' ctv, H f = some (Just f (lamO q params body scope (cloFrom cells scope.names []) dV doc pm c' ctv)) ∧ H c' = some (CodeO c' q) ∧ DfO H dV dvs
theorem DfO.ext {H H' : Hp} {dV : Value} {dvs : List V} (h : DfO H dV dvs) (e : ExtN H H') : DfO H' dV dvs := by
  rcases h with h | ⟨t, x, u, z, a, b, c⟩
  · exact .inl h
  · exact .inr ⟨t, x, u, z, a, e t _ b just_tbl, c⟩
theorem Made.ext {H H' : Hp} {q : Str} {cells : List (Str × Addr)} {params : Arguments} {body : Expr} {scope : Scope} {dvs : List V} {f : Addr} (h : Made H q cells params body scope dvs f) (e : ExtN H H') : Made H' q cells params body scope dvs f := by
  obtain ⟨dV, doc, pm, c', ctv, a, b, d⟩ := h
  exact ⟨dV, doc, pm, c', ctv, e _ _ a just_tbl, e _ _ b codeO_ne, d.ext e⟩
section
variable {X : Cx} {pins : List (Addr × Obj)} {σ : L2.St} {H : Hp} {s : Shared}
theorem lam_tail {T : List (Addr × Str)} {c P : Addr} {params : Arguments} {body : Expr} {scope : Scope} {pos : Pos} {dV : Value} {E : Value → Shared → Prop} {Q : Value → Shared → Prop} (I : Inv X pins σ H s) (TB : TabB X.base X.mg c P) (hcode : X.env.code = .ref c)
    (hm : (P, X.env.qual ++ "<lambda>") ∈ T) (hu : ∀ p ∈ T, p.1 = P → p.2 = X.env.qual ++ "<lambda>") (hT : Tabs T H) (hfree : ∀ y ∈ scope.names, y.2 = .free → ∃ c, X.env.cells.lookup y.1 = some c)
    (h : ∀ (f c' : Addr) (doc pm ctv : Value) (H1 : Hp) (s' : Shared), Inv X pins σ H1 s' → ExtN H H1 → Tabs T H1 →
      H1 f = some (Just f (lamO (X.env.qual ++ "<lambda>") params body scope (cloFrom X.env.cells scope.names []) dV doc pm c' ctv)) → H1 c' = some (CodeO c' (X.env.qual ++ "<lambda>")) → Q (.ref f) s') :
    wpAny (model X.prog X.w) X.A (makeTail "<lambda>" (X.env.qual ++ "<lambda>") params (.expr body) scope X.env dV .none none pos pos.line) Q E s := by
  obtain ⟨ps, hP, ht, ha⟩ := hT _ hm
  have bP : s.heap.BuiltinsAt X.mg P := TB.bm.keeps I.bk
  have hP' : s.heap.get? P = some { cls := .none, data := .fields ps } := I.hok P _ hP
  have lay : ∀ {s1 : Shared} {H1 : Hp} {tk : Nat} {o : Obj}, o.isFreed = false → Inv X pins σ H1 s1 → H1 s1.heap.objs.size = none ∧ Inv X pins σ (upd H1 s1.heap.objs.size (Just s1.heap.objs.size o)) { s1 with heap := s1.heap.push o, toks := tk } := fun {s1 H1 tk o} fr I1 =>
    ⟨I1.hok.fresh (Nat.le_refl _), I1.laid (fun b u e => Heap.get?_push_of_some _ e) (Nat.le_refl _) (just_ok (Heap.get?_push_size _ fr))⟩
  have up : ∀ {H1 : Hp} {a : Addr} {o : HO}, H1 a = none → ∀ b u, H1 b = some u → upd H1 a o b = some u := fun {H1 a o} n b u e => by
    rw [upd_ne (ne_of_none e n)]
    exact e
  cases hc : codeAmong pos ps.toList with
  | none =>
    refine PySem.W.kdv_makeTail (mg := X.mg) (c := c) (P := P) (ps := ps) (closure_ok hfree) I.ok.glob (I.mod.glob.keeps I.bk) hcode (TB.code.keeps I.bk) hP' ht hc TB.gP bP fun c' ctv doc h' tk hx hge hlt hrec htb => ?_
    obtain ⟨c2, oc, vs, t, e2, hoc, hd, hv⟩ := hrec
    cases e2
    have nC : H c' = none := I.hok.fresh hge
    have I1 := inv_table (t' := tk) (more := #[rawInt pos.line, rawInt pos.col, .ref c']) (h' := h') I hP (fun b o hb e => hx b o hb e) htb hge ⟨oc, vs, t, hoc, hd, hv⟩
    have hE : ExtN H (upd (upd H P (.tbl (ps ++ #[rawInt pos.line, rawInt pos.col, .ref c']))) c' (CodeO c' (X.env.qual ++ "<lambda>"))) := fun b o e n => by
      rw [upd_ne (ne_of_none e nC), upd_ne (fun z => n ps (Option.some.inj (e.symm.trans (by rw [z]; exact hP))))]
      exact e
    have eL : (ps ++ #[rawInt pos.line, rawInt pos.col, .ref c']).toList = ps.toList ++ [rawInt pos.line, rawInt pos.col, .ref c'] := by simp
    have T1 : Tabs T (upd (upd H P (.tbl (ps ++ #[rawInt pos.line, rawInt pos.col, .ref c']))) c' (CodeO c' (X.env.qual ++ "<lambda>"))) := fun p hp => by
      by_cases hb : p.1 = P
      · rw [hu p hp hb, hb]
        refine ⟨_, by rw [upd_ne (ne_of_none hP nC), upd_same], by rw [eL]; exact PySem.TriplesOk_snoc _ _ _ _ ht, fun p' cv hcv => ?_⟩
        rw [eL] at hcv
        rcases among_app _ ht hcv with z | z
        · obtain ⟨c0, e1, e2⟩ := ha p' cv z
          exact ⟨c0, e1, hE _ _ e2 codeO_ne⟩
        · exact ⟨c', z, upd_same⟩
      · obtain ⟨ps', a1, a2, a3⟩ := hT p hp
        refine ⟨ps', by rw [upd_ne (ne_of_none a1 nC), upd_ne hb]; exact a1, a2, fun p' cv hcv => ?_⟩
        obtain ⟨c0, e1, e2⟩ := a3 p' cv hcv
        exact ⟨c0, e1, hE _ _ e2 codeO_ne⟩
    have L1 := lay (tk := tk) (o := lamO (X.env.qual ++ "<lambda>") params body scope (cloFrom X.env.cells scope.names []) dV doc ((X.mg "__name__").getD .none) c' ctv) rfl I1
    exact h _ c' doc ((X.mg "__name__").getD .none) ctv _ _ L1.2 (hE.trans (.of (up L1.1))) (T1.ext (up L1.1)) upd_same (up L1.1 _ _ upd_same)
  | some cv =>
    obtain ⟨c', e, hco⟩ := ha pos cv hc
    subst e
    refine PySem.W.kdv_makeTailHit (mg := X.mg) (c := c) (P := P) (ps := ps) (closure_ok hfree) I.ok.glob (I.mod.glob.keeps I.bk) hcode (TB.code.keeps I.bk) hP' ht hc bP fun ctv doc h' tk hx hsz => ?_
    have I1 : Inv X pins σ H { s with heap := h', toks := tk } := I.kept hx
    have L1 := lay (tk := tk) (o := lamO (X.env.qual ++ "<lambda>") params body scope (cloFrom X.env.cells scope.names []) dV doc ((X.mg "__name__").getD .none) c' ctv) rfl I1
    exact h _ c' doc ((X.mg "__name__").getD .none) ctv _ _ L1.2 (.of (up L1.1)) (hT.ext (up L1.1)) upd_same (up L1.1 _ _ hco)
/-- a lambda without parameters, or with one that has a default -/
def Dfl (X : Cx) (params : Arguments) (dvs : List V) : Prop := (dvs = [] ∧ defaultsOf params X.env = ([], [])) ∨ ∃ (e : Expr) (x : V), dvs = [x] ∧ defaultsOf params X.env = ([eval e X.env], []) ∧ PE X e (fun _ H Q => Q x H)
theorem lam_make3 {T : List (Addr × Str)} {c P : Addr} {params : Arguments} {body : Expr} {scope : Scope} {pos : Pos} {dvs : List V} {Q : Value → Shared → Prop} (I : Inv X pins σ H s) (TB : TabB X.base X.mg c P) (hcode : X.env.code = .ref c)
    (hm : (P, X.env.qual ++ "<lambda>") ∈ T) (hu : ∀ p ∈ T, p.1 = P → p.2 = X.env.qual ++ "<lambda>") (hT : Tabs T H) (hfree : ∀ y ∈ scope.names, y.2 = .free → ∃ c, X.env.cells.lookup y.1 = some c) (hd : Dfl X params dvs)
    (h : ∀ (f : Addr) (H1 : Hp) (s' : Shared), Inv X pins σ H1 s' → ExtN H H1 → Tabs T H1 → Made H1 (X.env.qual ++ "<lambda>") X.env.cells params body scope dvs f → Q (.ref f) s') :
    wpAny (model X.prog X.w) X.A (eval (.Lambda params body scope pos) X.env) Q X.xe s := by
  rcases hd with ⟨rfl, hd⟩ | ⟨e, x, rfl, hd, pe⟩
  · refine PySem.W.kla_eval hd ?_
    rw [makeFunction_eq]
    simp only [List.zip_nil_right, List.filterMap_nil, List.isEmpty_nil, if_true, pure_bind]
    exact lam_tail I TB hcode hm hu hT hfree fun f c' doc pm ctv H1 s' I1 e1 t1 hf hc => h f H1 s' I1 e1 t1 ⟨_, doc, pm, c', ctv, hf, hc, .inl ⟨rfl, rfl⟩⟩
  · rw [arm_eval_Lambda, hd]
    show wpAny _ X.A (do let dv ← evalAll [eval e X.env]; let kdv ← holding dv (evalAllOpt []); makeFunction "<lambda>" (X.env.qual ++ "<lambda>") params (.expr body) scope X.env dv kdv [] pos pos.line) Q X.xe s
    unfold evalAll
    refine wpAny_bind (wpAny_bind (thn (pe.run pins s σ H (fun v H1 => v = x ∧ H1 = H) I ⟨rfl, rfl⟩) fun u s1 hq => ?_))
    obtain ⟨v, H1, I1, r1, rfl, rfl⟩ := hq
    refine wpAny_bind (wpAny_holding ?_)
    unfold evalAll
    refine wpAny_pure (wpAny_pure (wpAny_bind (wpAny_holding ?_)))
    unfold evalAllOpt
    refine wpAny_pure ?_
    rw [makeFunction_eq]
    simp only [List.zip_nil_right, List.filterMap_nil, List.isEmpty_nil, List.isEmpty_cons, if_true, pure_bind, Bool.false_eq_true, if_false]
    refine wpAny_bind (wpAny_newTextTuple ?_)
    have n1 : H1 s1.heap.objs.size = none := I1.hok.fresh (Nat.le_refl _)
    have I2 := I1.laid (t' := s1.toks) (a := s1.heap.objs.size) (o := Just s1.heap.objs.size { cls := .type "tuple", data := .seq [u].toArray }) (h' := s1.heap.push { cls := .type "tuple", data := .seq [u].toArray }) (fun b o e => Heap.get?_push_of_some _ e) (Nat.le_refl _) (just_ok (Heap.get?_push_size _ rfl))
    have up : ∀ b o, H1 b = some o → upd H1 s1.heap.objs.size (Just s1.heap.objs.size { cls := .type "tuple", data := .seq [u].toArray }) b = some o := fun b o e => by
      rw [upd_ne (ne_of_none e n1)]
      exact e
    exact lam_tail I2 TB hcode hm hu (hT.ext up) hfree fun f c' doc pm ctv H2 s' I3 e3 t3 hf hc => h f H2 s' I3 ((ExtN.of up).trans e3) t3 ⟨_, doc, pm, c', ctv, hf, hc, .inr ⟨s1.heap.objs.size, _, u, rfl, rfl, e3 _ _ upd_same just_tbl, r1⟩⟩
end
end LD

set_option autoImplicit true
set_option maxHeartbeats 4000000
namespace LD
open PySem PySem.Spec PyProof.Rows L2 LamX
/-- the names of a lambda: its parameters, which nobody else has, captured ones, globals -/
structure LamN (N : List Str) (sc scope : Scope) (ps : List Str) : Prop where
  kind : scope.kind = .function
  co : scope.isCoroutine = false
  gen : scope.isGenerator = false
  cell : ∀ y ∈ scope.names, y.2 ≠ .cell
  own : ∀ y ∈ scope.names, y.2 = .local → y.1 ∉ N
  free : ∀ y ∈ scope.names, y.2 = .free → sc.names.lookup y.1 = some .cell ∨ sc.names.lookup y.1 = some .free
  par : ∀ x ∈ ps, scope.names.lookup x = some .local
def lamNB (N : List Str) (sc scope : Scope) (ps : List Str) : Bool :=
  decide (scope.kind = .function) && !scope.isCoroutine && !scope.isGenerator && (scope.names.all fun y => !decide (y.2 = .cell) && (!decide (y.2 = .local) || !decide (y.1 ∈ N)) && (!decide (y.2 = .free) || decide (sc.names.lookup y.1 = some .cell) || decide (sc.names.lookup y.1 = some .free))) && ps.all fun x => decide (scope.names.lookup x = some .local)
theorem lamN_by {N : List Str} {sc scope : Scope} {ps : List Str} (h : lamNB N sc scope ps = true) : LamN N sc scope ps := by
  unfold lamNB at h
  simp only [Bool.and_eq_true, Bool.or_eq_true, Bool.not_eq_true', decide_eq_true_eq, decide_eq_false_iff_not, List.all_eq_true] at h
  obtain ⟨⟨⟨⟨h1, h2⟩, h3⟩, h4⟩, h5⟩ := h
  refine ⟨h1, h2, h3, fun y hy => (h4 y hy).1.1, fun y hy e => ?_, fun y hy e => ?_, fun x hx => h5 x hx⟩
  · rcases (h4 y hy).1.2 with z | z
    · exact absurd e z
    · exact z
  · rcases (h4 y hy).2 with (z | z) | z
    · exact absurd e z
    · exact .inl z
    · exact .inr z
theorem LamN.has {X : Cx} {scope : Scope} {ps : List Str} (L : LamN X.N X.env.scope scope ps) (ok : X.Ok) : ∀ y ∈ scope.names, y.2 = .free → ∃ c, X.env.cells.lookup y.1 = some c := fun y hy e => by
  rcases L.free y hy e with k | k
  · exact ok.has _ (.inl k)
  · exact ok.has _ (.inr k)
/-- what the frame's cells hold -/
structure Held (X : Cx) (σ : L2.St) (scope : Scope) (h : Heap) (H : Hp) : Prop where
  val : ∀ (i : Nat) (y : Str) (v : V), X.N[i]? = some y → σ[i]? = some (some v) → scope.names.lookup y = some .free → ∃ c u, X.env.cells.lookup y = some c ∧ RelV v u ∧ h.IsCell c (some u)
  any : ∀ (y : Str) (c : Addr), X.env.cells.lookup y = some c → (∃ v, h.IsCell c v) ∧ H c = none
section
variable {X : Cx} {pins : List (Addr × Obj)} {σ : L2.St} {H H' : Hp} {s : Shared} {h h' : Heap} {scope : Scope} {ps : List Str}
theorem Held.of (I : Inv X pins σ H s) (L : LamN X.N X.env.scope scope ps) : Held X σ scope s.heap H := ⟨fun i y v e1 e2 e3 => by
    have hy : (y, NameKind.free) ∈ scope.names := PySem.mem_of_lookup e3
    have hv : Vis X.env.scope y := (L.free _ hy rfl).elim (fun k => .inr (.inl k)) (fun k => .inr (.inr k))
    obtain ⟨m, hn, hl⟩ := I.loc
    obtain ⟨u, r, q⟩ := hl i y v e1 e2 hv
    rcases q with ⟨k', _⟩ | ⟨_, c, e', z⟩
    · have k' : X.env.scope.names.lookup y = some .local := k'
      rcases L.free _ hy rfl with k2 | k2 <;> rw [show X.env.scope.names.lookup y = _ from k2] at k' <;> cases k'
    · exact ⟨c, u, e', r, z⟩, fun y c e => ⟨I.cell y c e, I.freeC y c e⟩⟩
theorem Held.go (K : Held X σ scope h H) (k : ∀ c v, H c = none → h.IsCell c v → (∃ y, X.env.cells.lookup y = some c) → h'.IsCell c v ∧ H' c = none) : Held X σ scope h' H' := ⟨fun i y v e1 e2 e3 => by
    obtain ⟨c, u, a, b, d⟩ := K.val i y v e1 e2 e3
    exact ⟨c, u, a, b, (k c _ (K.any y c a).2 d ⟨y, a⟩).1⟩, fun y c e => by
    obtain ⟨⟨v, z⟩, n⟩ := K.any y c e
    have q := k c v n z ⟨y, e⟩
    exact ⟨⟨v, q.1⟩, q.2⟩⟩
theorem Held.un {fs ex : List Addr} (K : Held X σ scope h H) (u : Un fs ex H H' h h') (hx : ∀ y c, X.env.cells.lookup y = some c → c ∉ ex) : Held X σ scope h' H' := K.go fun c v n ⟨o, ho, hd⟩ ⟨y, e⟩ => by
  obtain ⟨sl, q⟩ := u.any ho n (hx y c e)
  exact ⟨⟨_, q, hd⟩, u.free c o ho n (hx y c e)⟩
theorem lam_startK {A : Around} {outer : List Env} {E : XK} {f c' : Addr} {h₁ : Heap} {tk : Nat} {s1 : Shared} {HZ : Hp} {bs : List (Str × Value)} (ok : X.Ok) (len : σ.length = X.N.length) (L : LamN X.N X.env.scope scope ps) (K : Held X σ scope s1.heap HZ) (e0 : Env0 X.prog X.w X.K X.mg X.base A outer s1 HZ) (hd : A.handled = none)
    (hns : h₁.Ns s1.heap.objs.size fun y => bs.reverse.lookup y) (kp : ∀ b o, s1.heap.get? b = some o → h₁.get? b = some o) :
    Inv (lamCx X A outer s1 HZ E scope f c') [] σ HZ { s1 with heap := h₁, toks := tk } := by
  have hfree := L.has ok
  have cm : ∀ {y c}, (cloFrom X.env.cells scope.names []).lookup y = some c → X.env.cells.lookup y = some c := fun {y c} e => by
    rcases cloFrom_mem (PySem.mem_of_lookup e) with hm | ⟨h1, h2⟩
    · cases hm
    · obtain ⟨c1, hc⟩ := hfree _ h1 rfl
      have hc : X.env.cells.lookup y = some c1 := hc
      have e2 : c = c1 := by
        rw [h2, hc] <;> rfl
      rw [e2]
      exact hc
  have look : ∀ {y}, scope.names.lookup y = some .free → ∃ c, (cloFrom X.env.cells scope.names []).lookup y = some c := fun {y} hl =>
    mem_lookup (cloFrom_has (cells := X.env.cells) (acc := []) (PySem.mem_of_lookup hl))
  have cellK : ∀ {c : Addr} {v : Option Value}, s1.heap.IsCell c v → h₁.IsCell c v := fun {c v} ⟨o, ho, hd⟩ => ⟨_, kp _ _ ho, hd⟩
  have noA : ∀ b : Addr, b ∉ (lamCx X A outer s1 HZ E scope f c').ex := fun b z => absurd (show b ∈ ([] : List Addr) from z) (by simp)
  refine ⟨⟨e0.mod, L.kind, rfl, rfl, Nat.le_refl _, fun y z c e1 e2 => ok.inj y z c (cm e1) (cm e2), fun y hy => ?_, fun y c z _ => ?_, fun _ => hd, Around.frames_deeper e0.frames, .inr ⟨rfl, rfl⟩, fun b z => absurd z (noA b), e0.bs, e0.bsz, fun b _ _ => noA b,
      fun b z => absurd z (noA b), e0.funs, e0.frf⟩,
    rfl, e0.bare, Un.kept kp, ⟨_, hns, fun i y v e1 e2 e3 => ?_⟩, fun y c e => ?_, e0.hok.fresh (Nat.le_refl _), fun y c e => (K.any y c (cm e)).2, fun q hq => absurd (show q ∈ ([] : List (Addr × Obj)) ++ [] from hq) (by simp), e0.hok.kept kp, len⟩
  · have hy : scope.names.lookup y = some .cell ∨ scope.names.lookup y = some .free := hy
    rcases hy with hy | hy
    · exact absurd rfl (L.cell _ (PySem.mem_of_lookup hy))
    · exact look hy
  · have z : false = true := z
    cases z
  · have e1 : X.N[i]? = some y := e1
    have e3 : Vis scope y := e3
    rcases e3 with k | k | k
    · exact absurd (List.mem_of_getElem? e1) (L.own _ (PySem.mem_of_lookup k) rfl)
    · exact absurd rfl (L.cell _ (PySem.mem_of_lookup k))
    · obtain ⟨c, u, a, b, d⟩ := K.val i y v e1 e2 k
      obtain ⟨c2, h2⟩ := look k
      have := cm h2
      rw [a] at this
      cases this
      exact ⟨u, b, .inr ⟨.inr k, c, h2, cellK d⟩⟩
  · obtain ⟨⟨v, z⟩, _⟩ := K.any y c (cm e)
    exact ⟨v, cellK z⟩
end
/-- how its parameters are bound where nothing is handed in -/
def BindL (q : Str) (params : Arguments) (body : Expr) (scope : Scope) (ps : List Str) (dvs : List V) : Prop :=
  (dvs = [] ∧ ps = [] ∧ ∀ (cl : List (Str × Addr)) (doc pm cv ctv : Value), bindArgs (PySem.W.kdv_fn "<lambda>" q params (.expr body) scope cl .none doc pm cv ctv) ⟨[], []⟩ = pure []) ∨
  ∃ (x : V) (p : Str), dvs = [x] ∧ ps = [p] ∧ ∀ (t : Addr) (cl : List (Str × Addr)) (doc pm cv ctv u : Value), ∃ k, bindArgs (PySem.W.kdv_fn "<lambda>" q params (.expr body) scope cl (.ref t) doc pm cv ctv) ⟨[], []⟩ = seqItems? (.ref t) >>= k ∧ k (some #[u]) = pure [(p, u)]
section
variable {X : Cx} {σ : L2.St}
/-- x(), in the def g that got the lambda; that def was entered at s0 with H0 -/
theorem pe_actK {CXg : CXT} {Eg : XK} {Ng : List Str} {qg : Str} {sg : Scope} {g f : Addr} {cdg : Value} {params : Arguments} {body : Expr} {scope : Scope} {ps : List Str} {dvs : List V} {k i : Nat} {a : Str} {pn : List (Addr × Obj)} {xe : Value → Shared → Prop} {W : WX} {E : XK} {tb : TE} {p1 p2 : Pos} {A0 : Around} {stk : List Env} {s0 : Shared} {H0 : Hp}
    (ok : X.Ok) (len : σ.length = X.N.length) (L : LamN X.N X.env.scope scope ps) (K0 : Held X σ scope s0.heap H0) (hb : BindL (X.env.qual ++ "<lambda>") params body scope ps dvs)
    (tk : Takes ((cxOf CXg X.prog X.w X.K X.mg X.base Ng qg sg g cdg A0 stk s0 H0 Eg).tr pn xe) W) (hW : ∀ cls d σ' H', σ'.length = Ng.length → E cls d H' → W cls d σ' H') (hr : Room (k + 1) (A0.deeper (envOfC qg sg s0.heap.objs.size g cdg)))
    (hbody : ∀ (A : Around) (outer : List Env) (s : Shared) (H : Hp) (c' : Addr), Room k (A.deeper (lamEnv X scope s.heap.objs.size f c')) → PE (lamCx X A outer s H E scope f c') body tb)
    (hN : Ng[i]? = some a) (hv : Vis sg a) (hd : (a == ("__debug__" : Str)) = false := by decide) (hcd : (a == ("__classdict__" : Str)) = false := by decide) :
    PE ((cxOf CXg X.prog X.w X.K X.mg X.base Ng qg sg g cdg A0 stk s0 H0 Eg).tr pn xe) (.Call (.Name a p1) [] [] p2)
      (fun σZ HZ Q => σZ[i]? = some (some (.ref f)) ∧ Made HZ (X.env.qual ++ "<lambda>") X.env.cells params body scope dvs f ∧ tb σ HZ Q) := by
  refine ⟨fun pinsZ sZ σZ HZ Q IZ h => ?_⟩
  obtain ⟨hs, hm, ht⟩ := h
  refine wpAny_Call_Name_kw (thn ((pe_var (pos := p1) (i := i) hN hv hd hcd).run pinsZ sZ σZ HZ (fun v H1 => v = .ref f ∧ H1 = HZ) IZ ⟨.ref f, hs, rfl, rfl⟩) fun u s1 ⟨v, H1, I1, r1, q1⟩ => ?_)
  obtain ⟨ev, eH⟩ := q1
  subst ev
  rw [eH] at I1
  obtain rfl : u = Value.ref f := r1
  obtain ⟨dV, doc, pm, c', ctv, hf, hc, hD⟩ := hm
  have of1 : s1.heap.get? f = some (lamO (X.env.qual ++ "<lambda>") params body scope (cloFrom X.env.cells scope.names []) dV doc pm c' ctv) := (I1.hok f _ hf).1
  refine PySem.W.callWith_F0 ⟨_, _, _, _, of1⟩ ?_
  have un : Un (frs stk) [] H0 HZ s0.heap s1.heap := I1.base
  have K1 : Held X σ scope s1.heap HZ := K0.un un (fun _ _ _ => by simp)
  obtain ⟨⟨oc, vs, t, hoc, hdc, hvc⟩, _, _⟩ := I1.hok c' _ hc
  have rc : codeAny (model X.prog X.w) (A0.deeper (envOfC qg sg s0.heap.objs.size g cdg)) (.call (.ref f) ⟨[], []⟩) (CR (L2.CX X.prog X.w) (envOfC qg sg s0.heap.objs.size g cdg :: stk) X.prog X.w HZ s1 Q E) s1 := by
    refine PySem.W.kla_callFunE hr.depth of1 rfl L.co L.gen rfl ⟨c', oc, vs, t, rfl, hoc, hdc, hvc⟩ ?_
    have main : ∀ bs : List (Str × Value), (∀ y ∈ bs, y.1 ∈ ps) → wpAny (model X.prog X.w) (A0.deeper (envOfC qg sg s0.heap.objs.size g cdg)).in1 (newFunctionEnv scope mainGlobals (cloFrom X.env.cells scope.names []) bs ((X.env.qual ++ "<lambda>") ++ ".<locals>.") (some f) (.ref c') none builtinsNs)
        (fun env s₂ => s₂.heap.NoLimit ∧ codeAny (model X.prog X.w) (A0.deeper (envOfC qg sg s0.heap.objs.size g cdg)) (.expr body env) (CR (L2.CX X.prog X.w) (envOfC qg sg s0.heap.objs.size g cdg :: stk) X.prog X.w HZ s1 Q E) s₂) (fun e s' => CR (L2.CX X.prog X.w) (envOfC qg sg s0.heap.objs.size g cdg :: stk) X.prog X.w HZ s1 Q E (.error e) s') s1 := fun bs hbs => by
      refine wpAny_newFunctionEnv (fun y hy => L.cell y hy) (fun y hy => L.par _ (hbs y hy)) (fun h₁ hns hsb => ⟨I1.nolimit.fresh _ hsb, ?_⟩) L.kind
      show codeAny _ _ (.expr body (lamEnv X scope s1.heap.objs.size f c')) _ _
      have kp : ∀ b o, s1.heap.get? b = some o → h₁.get? b = some o := fun b o e => hsb.extBut b o (Nat.ne_of_lt (Heap.lt_size e)) (Heap.get?_push_of_some _ e)
      have J : Inv (lamCx X (A0.deeper (envOfC qg sg s0.heap.objs.size g cdg)) (envOfC qg sg s0.heap.objs.size g cdg :: stk) s1 HZ E scope f c') [] σ HZ { s1 with heap := h₁, toks := s1.toks + bs.length } :=
        lam_startK ok len L K1 I1.env0 hr.hd hns kp
      refine PySem.W.kla_codeExpr (wpAny_mono ((hbody _ _ s1 HZ c' (hr.deeper _)).run [] _ _ HZ Q J ht) (fun v s' hq => ?_) fun e s' hq => hq)
      obtain ⟨w', H', J', rv, q⟩ := hq
      exact ⟨w', H', J'.os, J'.bare, J'.base, J'.hok, rv, q⟩
    rcases hb with ⟨e1, e2, hb⟩ | ⟨x, p, e1, e2, hb⟩
    · rcases hD with ⟨_, rfl⟩ | ⟨t, x, u, z, _⟩
      · rw [hb]
        exact wpAny_pure (main [] (by simp))
      · rw [e1] at z
        cases z
    · rcases hD with ⟨e3, rfl⟩ | ⟨t, x', u, z, rfl, ht2, r⟩
      · rw [e1] at e3
        cases e3
      · obtain ⟨k', b1, b2⟩ := hb t (cloFrom X.env.cells scope.names []) doc pm (.ref c') ctv u
        rw [b1]
        refine wpAny_bind (wpAny_seqItems (I1.hok t _ ht2).1 rfl ?_)
        show wpAny _ _ (k' (some #[u])) _ _ _
        rw [b2]
        exact wpAny_pure (main [(p, u)] (fun y hy => by
          obtain rfl := List.mem_singleton.mp hy
          rw [e2]
          exact List.mem_singleton.mpr rfl))
  have hx : Passes (L2.CX X.prog X.w) ((cxOf CXg X.prog X.w X.K X.mg X.base Ng qg sg g cdg A0 stk s0 H0 Eg).tr pn xe) E :=
    fun pins' σ' H' s' e s2 I2 c => tk e s2 (XE.of_call I2 (fun cls d H2 h => hW cls d σ' H2 I2.len h) c)
  refine wpAny_call (codeAny_mono rc fun r s' hq => ?_)
  cases r with
  | error e => exact hx pinsZ σZ HZ s1 e s' I1 hq
  | ok fl =>
    cases fl with
    | ret u => exact I1.after hq
    | next => exact False.elim hq
    | brk => exact False.elim hq
    | cont => exact False.elim hq
end
end LD

set_option autoImplicit true
set_option maxHeartbeats 4000000
/-! try: .. with several clauses, some of which name the exception. -/
namespace LD
open PySem PySem.Spec PyProof.Rows L2 LamX
abbrev Cl3 : Type := Value × Option Nat × (Addr → Value → Option Addr → TS)
/-- a suite's ends, where the slot i is emptied behind it -/
abbrev offE (i : Nat) (D : Ends) : Ends := { nx := fun σ' H' => D.nx (σ'.set i none) H', rt := D.rt, bk := fun σ' H' => D.bk (σ'.set i none) H', ct := fun σ' H' => D.ct (σ'.set i none) H' }
abbrev tsOf (o : Option Nat) (ts : TS) (a : Addr) (D : Ends) (σ : L2.St) (H : Hp) : Prop := match o with
  | none => ts D σ H
  | some i => ts (offE i D) (σ.set i (some (.ref a))) H
def wMix (K : PySem.W.Frag) (Wout : WX) (D : Ends) : List Cl3 → WX
  | [] => Wout
  | q :: r => fun cls d σ H => ∃ b, PySem.W.exmOne K cls q.1 = some b ∧ (b = true → ∀ a, H a = none → tsOf q.2.1 (q.2.2 a cls d) a D σ H) ∧ (b = false → wMix K Wout D r cls d σ H)
/-- the clause's name, where it has one -/
def NmOk (X : Cx) : Option Str → Option Nat → Prop
  | none, none => True
  | some n, some i => X.N[i]? = some n ∧ X.env.kindOf n = some .local
  | _, _ => False
inductive HdsM (X : Cx) : List ExceptHandler → List Cl3 → Prop
  | nil : HdsM X [] []
  | cons {x : Str} {c : Value} {on : Option Str} {o : Option Nat} {ts : Addr → Value → Option Addr → TS} {b0 : Stmt} {bs : List Stmt} {p p' : Pos} {hds : List ExceptHandler} {l : List Cl3} (hc : Names X x c) (hn : NmOk X on o)
      (hs : ∀ (a : Addr) (oe : Obj) (cls : Value) (d : Option Addr) (pn : List (Addr × Obj)), Zc cls d oe → (∃ vs, oe.data = .fields vs) → PSs (X.suite a ((a, oe) :: pn)) (b0 :: bs) (ts a cls d)) (r : HdsM X hds l) :
      HdsM X (.ExceptHandler (some (.Name x p)) on (b0 :: bs) p' :: hds) ((c, o, ts) :: l)
section
variable {X : Cx} {body : List Stmt} {h0 : ExceptHandler} {hds : List ExceptHandler} {l : List Cl3} {pos : Pos} {tb : WX → TS} {Wout : WX}
theorem ps_try_mix (hs : X.stack = X.env :: X.outer) (hf : X.env.frame = some X.env.locals) (hN : X.N.Nodup) (tk : Takes X Wout)
    (hb : ∀ (W : WX) (pn : List (Addr × Obj)) (xe : Value → Shared → Prop), Takes (X.tr pn xe) W → PassesOwn (model X.prog X.w) X.A X.env xe → PSs (X.tr pn xe) body (tb W))
    (hh : HdsM X (h0 :: hds) l) : PS X (.Try body (h0 :: hds) [] [] pos) (fun D σ H => tb (wMix X.K Wout D l) D σ H) := by
  refine ⟨fun pins s σ H D I hq0 => ?_⟩
  have ok := I.ok
  have hfr : X.A.frames = some (X.env :: X.outer) := by rw [ok.frames, hs]
  refine wpAny_Try_except ?_
  refine wpAny_mono ((hb (wMix X.K Wout D l) (X.pn ++ pins) (fun e s1 => wpAny (model X.prog X.w) X.A (noteFrame e X.env) (fun _ s2 => wpAny (model X.prog X.w) X.A (setFlight e none) (fun _ s3 =>
    wpAny (model X.prog X.w) X.A (handleBy e X.env (h0 :: hds)) (SP X pins D) X.xe s3) X.xe s2) X.xe s1) (fun u sB xx => ?_) PassesOwn.looking).run [] s σ H D (I.toTry _) hq0) (fun f s1 hsp => ?_) (fun e s1 he => he)
  · obtain ⟨a, B, sA, pins', σ1, H1, cls, d, rfl, JA, nb, up, sky, na, os, ag, wish⟩ := xx
    have J := JA.ofTry ok
    show wpAny (model X.prog X.w) X.A (noteFrame (.ref a) X.env) _ _ _
    refine Sky.land (B := B) Zc.steady hfr hf (by rw [← hs]; exact sky) fun g3 fl3 up3 => ?_
    have J3 : Inv X pins σ1 H1 { sB with heap := g3 } := J.landed nb fl3.1 (up.trans up3) os ag
    obtain ⟨o3, v3, ge3, gz3, gd3⟩ := fl3.there
    -- the exception is none of the frames
    have afar : ∀ e ∈ X.env :: X.outer, e.frame ≠ some a := fun e he q => by
      obtain ⟨_, o', e', hnf⟩ := fl3.2.2.1.mem (b := a) (List.mem_filterMap.mpr ⟨e, he, q⟩)
      rw [ge3] at e'
      cases e'
      exact hnf _ gd3
    have nL : a ≠ X.env.locals := fun z => afar X.env List.mem_cons_self (by rw [hf, z])
    have nF : a ∉ X.fs := fun hm => by
      obtain ⟨e, he, q⟩ := List.mem_filterMap.mp hm
      exact afar e (List.mem_cons_of_mem _ he) q
    have S3 := J3.suite ge3 gd3 na nL nF
    have chain : ∀ {hds' : List ExceptHandler} {l' : List Cl3}, HdsM X hds' l' → wMix X.K Wout D l' cls d σ1 H1 → wpAny (model X.prog X.w) X.A (handleBy (.ref a) X.env hds') (SP X pins D) X.xe { sB with heap := g3 } := by
      intro hds' l' hk
      induction hk with
      | nil =>
        intro wish
        refine wpAny_handleBy_nil ?_
        obtain ⟨_, _, _, oe, vs, T, oT, ts', he, _, hd, h1, _⟩ := id fl3
        unfold PySem.passOn
        refine wpAny_bind (wpAny_field he hd h1 ?_)
        rw [if_neg (show ¬ ((Value.ref T == Value.none) = true) from by simp)]
        have out : wpAny (model X.prog X.w) X.A (setFlight (.ref a) X.env.frame) (fun _ s4 => wpAny (model X.prog X.w) X.A (throw (.ref a) : Sem Flow) (SP X pins D) X.xe s4) X.xe { sB with heap := g3 } := by
          rw [hf]
          exact HandSPX.setFlight_upZ fl3 fun g4 hg4 up4 => wpAny_throw (tk _ _ ⟨a, B, sA, pins, σ1, H1, cls, d, rfl, J, nb, (up.trans up3).trans up4, .inr (.inr (by rw [hs]; exact hg4)), na, os, ag, wish⟩)
        first
          | exact wpAny_bind (wpAny_pure (wpAny_bind out))
          | exact wpAny_bind out
      | @cons x c on o ts b0 bs p p' hds2 l2 hc hn hsu r ih =>
        intro wish
        obtain ⟨b, hb1, hyes, hno⟩ := wish
        refine wpAny_handleBy_cons (codeAny_handlers_test ?_) (by intro q; cases q)
        have LM := PySem.W.exm_one (M := model X.prog X.w) (J3.kIn) (fun A Q E s k q => wpAny_typeOf_ref (k _ _ ge3) (by rw [gz3.1]; exact q)) hb1
        have look : ∀ {Q : Value → Shared → Prop} {E : Value → Shared → Prop}, Q c { sB with heap := g3 } → wpAny (model X.prog X.w) (X.A.mark (some (.ref a))) (eval (.Name x p) X.env) Q E { sB with heap := g3 } := fun {Q E} q => by
          obtain ⟨hg, hdbg, hm | ⟨hm, hv, hnn⟩⟩ := hc
          · exact ld_glob (X := X.suite a ((a, o3) :: (X.pn ++ pins))) S3 hg hm q hdbg
          · exact ld_blt (X := X.suite a ((a, o3) :: (X.pn ++ pins))) S3 hg hm hv q hnn hdbg
        refine look (LM.here ?_)
        cases b with
        | false => exact ih (hno rfl)
        | true =>
          have wq := hyes rfl a na
          match on, o, hn, wq with
          | none, none, _, wq =>
            refine codeAny_handlers_suite (HandSPX.lands_againZ fl3 fun g4 fl4 up4 => ?_)
            have J4 : Inv X pins σ1 H1 { sB with heap := g4 } := J.landed nb fl4.1 ((up.trans up3).trans up4) os ag
            obtain ⟨o4, v4, ge4, gz4, gd4⟩ := fl4.there
            refine wpAny_mono ((hsu a o4 cls d (X.pn ++ pins) gz4 ⟨_, gd4⟩).run [] _ _ H1 _ (J4.suite ge4 gd4 na nL nF) wq) (fun f s6 hsp => ?_) (fun _ _ z => False.elim z)
            cases f with
            | ret u =>
              obtain ⟨v6, σ6, H6, S6, r6, q6⟩ := hsp
              exact ⟨v6, σ6, H6, S6.unsuite ok, r6, q6⟩
            | next | brk | cont =>
              obtain ⟨σ6, H6, S6, q6⟩ := hsp
              exact ⟨σ6, H6, S6.unsuite ok, q6⟩
          | some n, some i, ⟨hi, hln⟩, wq =>
            refine codeAny_handlers_suite_as (HandSPX.lands_againZ fl3 fun g4 fl4 up4 => ?_)
            have J4 : Inv X pins σ1 H1 { sB with heap := g4 } := J.landed nb fl4.1 ((up.trans up3).trans up4) os ag
            obtain ⟨o4, v4, ge4, gz4, gd4⟩ := fl4.there
            refine store_ok (X := X.suite a ((a, o4) :: (X.pn ++ pins))) (v := .ref a) (J4.suite ge4 gd4 na nL nF) hN hi (.inl hln) rfl (fun s5 S5 => ?_) (.inr hln)
            refine wpAny_mono ((hsu a o4 cls d (X.pn ++ pins) gz4 ⟨_, gd4⟩).run [] s5 _ H1 _ S5 wq) (fun f s6 hsp => ?_) (fun _ _ z => False.elim z)
            have off : ∀ {σ6 : L2.St} {H6 : Hp} {Q : Shared → Prop}, Inv (X.suite a ((a, o4) :: (X.pn ++ pins))) [] σ6 H6 s6 → (∀ s7, Inv X pins (σ6.set i none) H6 s7 → Q s7) →
                wpAny (model X.prog X.w) X.A (do bindName X.env n .none; unbindBehindTheSuite X.env n p') (fun _ s7 => Q s7) X.xe s6 := fun {σ6 H6 Q} S6 q => gone_ok (S6.unsuite ok) hN hi hln q
            cases f with
            | ret u =>
              obtain ⟨v6, σ6, H6, S6, r6, q6⟩ := hsp
              exact off S6 fun s7 J7 => ⟨v6, _, H6, J7, r6, q6⟩
            | next | brk | cont =>
              obtain ⟨σ6, H6, S6, q6⟩ := hsp
              exact off S6 fun s7 J7 => ⟨_, H6, J7, q6⟩
    exact chain hh wish
  · cases f with
    | next =>
      obtain ⟨σ', H', J', q⟩ := hsp
      exact wpAny_execs_nil ⟨σ', H', J'.ofTry ok, q⟩
    | ret u =>
      obtain ⟨v, σ', H', J', r, q⟩ := hsp
      exact ⟨v, σ', H', J'.ofTry ok, r, q⟩
    | brk | cont =>
      obtain ⟨σ', H', J', q⟩ := hsp
      exact ⟨σ', H', J'.ofTry ok, q⟩
end
end LD

set_option autoImplicit true
set_option maxHeartbeats 4000000
/-! A def that calls what it is handed; a comprehension whose element knows the frame it stands in. -/
namespace LD
open PySem PySem.Spec PyProof.Rows L2 LamX
/-- a lambda of X's frame, its reading t by what it may let out -/
structure LamK (X : Cx) (k : Nat) (params : Arguments) (body : Expr) (scope : Scope) (dvs : List V) (t : XK → TE) : Prop where
  ex : ∃ ps, LamN X.N X.env.scope scope ps ∧ BindL (X.env.qual ++ "<lambda>") params body scope ps dvs
  body : ∀ (A : Around) (outer : List Env) (s : Shared) (H : Hp) (E : XK) (f c' : Addr), Room k (A.deeper (lamEnv X scope s.heap.objs.size f c')) → PE (lamCx X A outer s H E scope f c') body (t E)
/-- the def g (its one parameter a) calls what it got: TT is what it makes of that one's reading -/
def GivesK (X : Cx) (A0 : Around) (stk : List Env) (Ng : List Str) (x : Str) (sg : Scope) (g : Addr) (cdg : Value) (bg : List Stmt) (a : Str) (TT : (XK → Hp → VK → Prop) → Hp → VK → Prop) : Prop :=
  ∀ (f : Addr) (M : Hp → Prop) (s : Shared) (H : Hp) (Q : VK) (tl : XK → Hp → VK → Prop),
    (∀ (W : WX) (pn : List (Addr × Obj)) (xe : Value → Shared → Prop) (E : XK) (p1 p2 : Pos), Takes ((cxOf L2.CX0 X.prog X.w X.K X.mg X.base Ng x sg g cdg A0 stk s H L2.E0).tr pn xe) W → (∀ cls d σ' H', σ'.length = Ng.length → E cls d H' → W cls d σ' H') →
      PE ((cxOf L2.CX0 X.prog X.w X.K X.mg X.base Ng x sg g cdg A0 stk s H L2.E0).tr pn xe) (.Call (.Name a p1) [] [] p2) (fun σZ HZ Q => σZ[0]? = some (some (.ref f)) ∧ M HZ ∧ tl E HZ Q)) →
    M H → TT tl H Q →
    ∃ t, PSs (cxOf L2.CX0 X.prog X.w X.K X.mg X.base Ng x sg g cdg A0 stk s H L2.E0).nox bg t ∧ t { nx := fun _ H' => Q .non H', rt := Q } (L2.start Ng [.ref f]) H
/-- that def, as the caller sees it -/
structure Taker (X : Cx) (A0 : Around) (stk : List Env) (x : Str) (g : Addr) (TT : (XK → Hp → VK → Prop) → Hp → VK → Prop) : Prop where
  mg : X.mg x = some (.ref g)
  kp : PySem.W.keepIn X.K (.ref g) = true
  ex : ∃ (pg : Arguments) (bg : List Stmt) (sg : Scope) (dV kV doc pm cdv ct oc : Value) (an od : Option Addr) (osl : Array (Option Value)) (Ng : List Str) (a : Str),
    X.K.lookup g = some ⟨oc, od, .func (PySem.W.fnOf x x pg bg sg dV kV doc pm an cdv ct), osl⟩ ∧ PySem.W.codeIn X.K cdv x = true ∧ L2.Binds X.K (PySem.W.fnOf x x pg bg sg dV kV doc pm an cdv ct) [a] [] ∧ FnScope Ng [a] sg ∧ Ng[0]? = some a ∧ Vis sg a ∧
    (a == ("__debug__" : Str)) = false ∧ (a == ("__classdict__" : Str)) = false ∧ GivesK X A0 stk Ng x sg g cdv bg a TT
section
variable {X : Cx} {σ : L2.St}
theorem run_taker {A0 : Around} {stk : List Env} {x : Str} {g f : Addr} {k : Nat} {TT : (XK → Hp → VK → Prop) → Hp → VK → Prop} {params : Arguments} {body : Expr} {scope : Scope} {dvs : List V} {t : XK → TE} {s : Shared} {H : Hp} {Q : VK} (T : Taker X A0 stk x g TT) (e0 : Env0 X.prog X.w X.K X.mg X.base A0 stk s H)
    (hr : Room (k + 2) A0) (ok : X.Ok) (len : σ.length = X.N.length) (D : LamK X k params body scope dvs t) (Hd : Held X σ scope s.heap H) (hm : Made H (X.env.qual ++ "<lambda>") X.env.cells params body scope dvs f) (h : TT (fun E H' Q' => t E σ H' Q') H Q) :
    codeAny (model X.prog X.w) A0 (.call (.ref g) ⟨[.ref f], []⟩) (CR L2.CX0 stk X.prog X.w H s Q L2.E0) s := by
  obtain ⟨pg, bg, sg, dV, kV, doc, pm, cdv, ct, oc, an, od, osl, Ng, a, lk, hcg, hb, Sg, hNg, hva, hd, hcd, hG⟩ := T.ex
  obtain ⟨ps, L, hbd⟩ := D.ex
  have kin : X.K.In s.heap := e0.mod.kin.keeps fun b o e => (e0.bs b o e).1
  refine run_ofS (N := Ng) (ps := [a]) (us := [.ref f]) (vs := [.ref f]) lk hcg Sg hr e0 (hb s [.ref f] kin rfl) (.cons rfl .nil) rfl fun hr' => ?_
  obtain ⟨t', ht', hq'⟩ := hG f (fun H' => Made H' (X.env.qual ++ "<lambda>") X.env.cells params body scope dvs f) s H Q (fun E H' Q' => t E σ H' Q')
    (fun W pn xe E p1 p2 tk hW => pe_actK (i := 0) ok len L Hd hbd tk hW hr' (fun A outer s H c' hr2 => D.body A outer s H E f c' hr2) hNg hva hd hcd) hm h
  exact ⟨t', ht'.nox, hq'⟩
/-- x(lambda ..: body) -/
theorem pe_lamK {T : List (Addr × Str)} {TT : (XK → Hp → VK → Prop) → Hp → VK → Prop} {x : Str} {g c P : Addr} {k : Nat} {params : Arguments} {body : Expr} {scope : Scope} {dvs : List V} {t : XK → TE} {p lpos pos : Pos} (hg : Gl X x) (Tk : Taker X X.A X.stack x g TT) (TB : TabB X.base X.mg c P) (hcode : X.env.code = .ref c)
    (hmT : (P, X.env.qual ++ "<lambda>") ∈ T) (hu : ∀ p ∈ T, p.1 = P → p.2 = X.env.qual ++ "<lambda>") (hr : Room (k + 2) X.A) (hd : Dfl X params dvs) (D : LamK X k params body scope dvs t) (hdb : (x == ("__debug__" : Str)) = false := by decide) :
    PE X (.Call (.Name x p) [.Lambda params body scope lpos] [] pos) (fun σ H Q => Tabs T H ∧ ∀ H1, ExtN H H1 → Tabs T H1 → TT (fun E H' Q' => t E σ H' Q') H1 Q) := by
  refine ⟨fun pins s σ H Q I h => ?_⟩
  obtain ⟨hT, h⟩ := h
  obtain ⟨ps, L, _⟩ := id D.ex
  refine wpAny_Call_Name_kw (ld_glob I hg Tk.mg ?_ hdb)
  refine PySem.W.callWith_K (h₀ := X.base) I.ok.mod.kin Tk.kp ?_ (by rfl) (by rfl)
  show wpAny _ _ (spliced ((false, eval (.Lambda params body scope lpos) X.env) :: backTo pos (starEach [] X.env))) _ _ s
  refine Calls.spliced_cons (lam_make3 I TB hcode hmT hu hT (L.has I.ok) hd fun f H1 s' I1 eN T1 hm => ?_)
  refine Calls.spliced_nil ⟨I1.kIn, ?_⟩
  refine wpAny_call (codeAny_mono (run_taker Tk I1.env0 hr I1.ok I1.len D (.of I1 L) hm (h H1 eN T1)) fun r s2 hq => ?_)
  cases r with
  | error e => exact (show False from hq).elim
  | ok fl =>
    cases fl with
    | ret u => exact I1.after hq
    | next | brk | cont => exact False.elim hq
/-- a lambda as a value -/
theorem pe_lamV {T : List (Addr × Str)} {c P : Addr} {params : Arguments} {body : Expr} {scope : Scope} {dvs : List V} {ps : List Str} {pos : Pos} (TB : TabB X.base X.mg c P) (hcode : X.env.code = .ref c) (hmT : (P, X.env.qual ++ "<lambda>") ∈ T) (hu : ∀ p ∈ T, p.1 = P → p.2 = X.env.qual ++ "<lambda>") (hd : Dfl X params dvs)
    (L : LamN X.N X.env.scope scope ps) : PE X (.Lambda params body scope pos) (fun σ H Q => Tabs T H ∧ ∀ f H1, ExtN H H1 → Tabs T H1 → Made H1 (X.env.qual ++ "<lambda>") X.env.cells params body scope dvs f → Q (.ref f) H1) := by
  refine ⟨fun pins s σ H Q I h => ?_⟩
  obtain ⟨hT, h⟩ := h
  exact lam_make3 I TB hcode hmT hu hT (L.has I.ok) hd fun f H1 s' I1 eN T1 hm => ⟨.ref f, H1, I1, rfl, h f H1 eN T1 hm⟩
/-- x(e) in a comprehension's block, e one of the frame's lambdas -/
theorem pe_takeB {TT : (XK → Hp → VK → Prop) → Hp → VK → Prop} {x : Str} {g : Addr} {k : Nat} {p pos : Pos} {e : Expr} {te : TE} {s3 : Shared} {H3 : Hp} {scopeB : Scope} {ce : Env} {fp : List Addr} {pins0 : List (Addr × Obj)}
    (hg : Gl (X.blk s3 H3 scopeB ce fp) x) (Tk : Taker X X.A X.stack x g TT) (hr : Room (k + 2) X.A) (I3 : Inv X pins0 σ H3 s3) (hfp : ∀ b ∈ fp, FpOk X pins0 H3 b) (ha : PA (X.blk s3 H3 scopeB ce fp) [e] (tCons te tNil)) (hdb : (x == ("__debug__" : Str)) = false := by decide)
    (hst : starEach [e] (X.blk s3 H3 scopeB ce fp).env = (false, eval e (X.blk s3 H3 scopeB ce fp).env) :: starEach [] (X.blk s3 H3 scopeB ce fp).env := by rfl) (hpl : (backTo pos (starEach [] (X.blk s3 H3 scopeB ce fp).env)).any (·.1) = false := by rfl) :
    PE (X.blk s3 H3 scopeB ce fp) (.Call (.Name x p) [e] [] pos) (fun σ' H' Q => tCons te tNil σ' H' fun vs H1 => ∃ (f : Addr) (params : Arguments) (body : Expr) (scope : Scope) (dvs : List V) (t : XK → TE), vs = [.ref f] ∧ LamK X k params body scope dvs t ∧
      Made H1 (X.env.qual ++ "<lambda>") X.env.cells params body scope dvs f ∧ TT (fun E H'' Q' => t E σ H'' Q') H1 Q) := by
  refine ⟨fun pins s σ' H Q I h => ?_⟩
  refine wpAny_Call_Name_kw (ld_glob I hg Tk.mg ?_ hdb)
  refine PySem.W.callWith_K (h₀ := X.base) I.ok.mod.kin Tk.kp (thn (ha.run pos pins s σ' H (fun vs H1 => ∃ (f : Addr) (params : Arguments) (body : Expr) (scope : Scope) (dvs : List V) (t : XK → TE), vs = [.ref f] ∧ LamK X k params body scope dvs t ∧
      Made H1 (X.env.qual ++ "<lambda>") X.env.cells params body scope dvs f ∧ TT (fun E H'' Q' => t E σ H'' Q') H1 Q) I ?_) fun us s1 hq => ?_) hst hpl
  · exact h
  · obtain ⟨vs, H1, I1, r, f, params, body, scope, dvs, t, rfl, D, hm, hT⟩ := hq
    refine ⟨I1.kIn, ?_⟩
    cases r with
    | cons r1 r2 =>
      cases r2
      cases r1
      obtain ⟨ps, L, _⟩ := id D.ex
      have Hd : Held X σ scope s1.heap H1 := (Held.of I3 L).un I1.base fun y c e hc => (hfp c hc).2.2.2.2.1 y c e rfl
      refine wpAny_call (codeAny_mono (run_taker (X := X) (A0 := X.A) (stk := X.stack) (σ := σ) (s := s1) (H := H1) (Q := Q) Tk I1.env0 hr I3.ok I3.len D Hd hm hT) fun r s2 hq => ?_)
      cases r with
      | error e => exact (show False from hq).elim
      | ok fl =>
        cases fl with
        | ret u => exact I1.after hq
        | next | brk | cont => exact False.elim hq
end
end LD

set_option autoImplicit true
set_option maxHeartbeats 4000000
/-! A list comprehension whose element's rule may use what holds in the frame where the block begins. -/
namespace LD
open PySem PySem.Spec PyProof.Rows L2 LamX
section
variable {X : Cx}
theorem pe_lcK {elt tg iter : Expr} {scope : Scope} {own : List (Str × Nat)} {pos : Pos} {wi : TI} {g : TG} {te : L2.St → TE} (hc : X.calm = true) (hN : X.N.Nodup) (hi : PI X tg iter wi) (ok : BlkOk X.N X.env.scope scope own)
    (hg : ∀ (s : Shared) (H : Hp) (C : Addr) (cl : List (Str × Addr)) (fp : List Addr), PG (X.blk s H scope (compEnvC scope cl C X.env) fp) tg g)
    (he : ∀ (pins : List (Addr × Obj)) (σ : L2.St) (s : Shared) (H : Hp) (C : Addr) (cl : List (Str × Addr)) (fp : List Addr), Inv X pins σ H s → (∀ b ∈ fp, FpOk X pins H b) → PE (X.blk s H scope (compEnvC scope cl C X.env) fp) elt (te σ))
    (hs : ∀ x, foldedSetIterable iter X.env x = pure x := by intro _; rfl) :
    PE X (.ListComp elt [⟨tg, iter, [], 0⟩] scope pos) (fun σ H Q => tLc wi g tYes (te σ) (own.map (·.2)) σ H Q) := by
  refine ⟨fun pins s σ H Q I0 h => ?_⟩
  rw [eval_ListComp]
  have caught : ∀ y ∈ scope.names, y.2 = .free → ∃ c, X.env.cells.lookup y.1 = some c := fun y hy e => I0.ok.has _ (by
    rcases ok.free y hy e with k | k
    · exact .inl k
    · exact .inr k)
  refine wpAny_comprehension_free (use := none) rfl hs (closure_ok caught) ok.kind (fun y hy e => by rw [ok.uniq y hy, e])
    (thn (hi.run pins s σ H _ I0 h) fun xv sa hx => thn hx fun itv sb hb => ?_)
  obtain ⟨it, fp, tn, J, Hb, e, Ib, T, stb, fb, q⟩ := hb
  subst e
  refine wpAny_newObj_type (newEnv_comp ?_) (by show 0 ≤ sizeLine; decide)
  generalize hD : sb.heap.objs.size = D
  have hDn : Hb D = none := Ib.hok.fresh (Nat.le_of_eq hD)
  obtain ⟨W, ⟨m0, w0⟩, turn⟩ := q D hDn
  generalize es3 : ({ sb with heap := sb.heap.push { cls := .type "list", data := .seq ([] : List Value).toArray } } : Shared) = s3
  have h3 : s3.heap = sb.heap.push { cls := .type "list", data := .seq ([] : List Value).toArray } := by rw [← es3]
  generalize eH3 : upd Hb D (.lst []) = H3 at w0
  have I3 : Inv X pins σ H3 s3 := by
    rw [← es3, ← eH3]
    refine Ib.laid (t' := sb.toks) (fun b o e => Heap.get?_push_of_some _ e) (Nat.le_of_eq hD) ⟨Nat.zero_le _, [], 0, .nil, ?_⟩
    rw [← hD]
    exact Heap.get?_push_size _ rfl
  have f3 : ∀ b ∈ fp, FpOk X pins H3 b ∧ b < s3.heap.objs.size := fun b hbm => by
    obtain ⟨o, eo, _⟩ := T.obj _ _ stb b hbm
    have hlt := Heap.lt_size eo
    refine ⟨⟨?_, (fb b hbm).2⟩, by rw [h3, Heap.size_push]; exact Nat.lt_succ_of_lt hlt⟩
    rw [← eH3, upd_ne (by rw [← hD]; exact Nat.ne_of_lt hlt)]
    exact (fb b hbm).1
  have I4 := block_start I3 ok hN f3
  have pg := hg s3 H3 s3.heap.objs.size (cellsFrom (s3.heap.objs.size + 1) scope.names (cloFrom X.env.cells scope.names [])) fp
  have pe := he pins σ s3 H3 s3.heap.objs.size (cellsFrom (s3.heap.objs.size + 1) scope.names (cloFrom X.env.cells scope.names [])) fp I3 fun b hbm => (f3 b hbm).1
  show codeAny _ _ (.compStart (.ListComp elt [⟨tg, iter, [], 0⟩] scope pos) 0 (.ref it) (.ref D) (compEnvC scope (cellsFrom (s3.heap.objs.size + 1) scope.names (cloFrom X.env.cells scope.names [])) s3.heap.objs.size X.env)) (compPost (model X.prog X.w) X.A X.xe none (EP X pins σ Q) (.ref D) s3.heap.objs.size) { s3 with heap := pushCells (s3.heap.push { cls := .type "dict", data := .dict #[] }) scope.names }
  generalize hce : compEnvC scope (cellsFrom (s3.heap.objs.size + 1) scope.names (cloFrom X.env.cells scope.names [])) s3.heap.objs.size X.env = ce at I4 pg pe ⊢
  have cL : ce.locals = s3.heap.objs.size := by rw [← hce]; rfl
  generalize es4 : ({ s3 with heap := pushCells (s3.heap.push { cls := .type "dict", data := .dict #[] }) scope.names } : Shared) = s4 at I4 ⊢
  have st4 : tn 0 s4.heap := T.keep _ _ _ stb fun b _ o e => by
    rw [← es4]
    exact pushCells_keeps _ _ _ _ (Heap.get?_push_of_some _ (by rw [h3]; exact Heap.get?_push_of_some _ e))
  have still : ∀ {σ' : L2.St} {H' : Hp} {s' : Shared}, Inv (X.blk s3 H3 scope ce fp) [] σ' H' s' → (∀ b ∈ fp, H' b = none) → ∀ b ∈ fp, FpOk (X.blk s3 H3 scope ce fp) [] H' b := fun {σ' H' s'} I' hn b hbm =>
    ⟨hn b hbm, (I'.ok.exf b hbm).1, I'.ok.exfs b hbm, .inl hbm, fun x c e => (I'.ok.exf b hbm).2 x c e, fun p hp => absurd (show p ∈ ([] : List (Addr × Obj)) ++ [] from hp) (by simp)⟩
  have loop : codeAny (model X.prog X.w) X.A (.compLoop (.ListComp elt [⟨tg, iter, [], 0⟩] scope pos) 0 (.ref it) (.ref D) ce) (compPost (model X.prog X.w) X.A X.xe none (EP X pins σ Q) (.ref D) s3.heap.objs.size) s4 := by
    refine compLoop_any (fun n s' => ∃ i H', Inv (X.blk s3 H3 scope ce fp) [] (wipe σ (own.map (·.2))) H' s' ∧ tn i s'.heap ∧ (∀ b ∈ fp, H' b = none) ∧ W i n H') ?_ m0 ⟨0, H3, I4, st4, fun b hbm => (f3 b hbm).1.1, w0⟩
    rintro n s5 ⟨i, H5, I5, st5, n5, w5⟩
    rcases turn i n H5 w5 with ⟨stop, qq⟩ | ⟨go, Nx, hNx, step⟩
    · refine thnF (T.done (X.blk s3 H3 scope ce fp) rfl rfl rfl hc i [] s5 _ H5 (fun _ _ => False) I5 (still I5 n5) st5 stop) fun r s6 ⟨hr, I6⟩ => ?_
      subst hr
      have I7 : Inv X pins σ H5 s6 := I3.call' (ch := fp) I6.os I6.base I6.hok I6.bare fun b hbm => ⟨(f3 b hbm).1.2.2.2.1, (f3 b hbm).1.2.1, (f3 b hbm).1.2.2.2.2.1, (f3 b hbm).1.2.2.2.2.2⟩
      have nC : H5 s3.heap.objs.size = none := by
        rw [← cL]
        exact I6.free
      obtain ⟨m, hn, _⟩ := I6.loc
      have hn' : s6.heap.Ns s3.heap.objs.size m := by
        rw [← cL]
        exact hn
      obtain ⟨k0, k1, k3, k4, k5, k6⟩ := I3.fpOk (Nat.le_refl _) nC
      exact ⟨m, hn', fun h'' sbt => ⟨.ref D, H5, I7.turned (t' := s6.toks) (fun b o hbn e => (sbt.2 b hbn).trans e) k0 k1 k4 k5 k6, rfl, qq⟩⟩
    · refine thnF (T.item (X.blk s3 H3 scope ce fp) rfl rfl rfl hc i [] s5 _ H5 (fun _ _ => False) I5 (still I5 n5) st5 go) fun r s6 ⟨u, hr, h6⟩ => ?_
      subst hr
      refine thnF h6 fun _ s7 ⟨x, H7, I7, r7, y7, st7, n7⟩ => ?_
      refine thnF (pg.run _ s7 _ H7 x u _ (I7.pinned (still I7 n7) (T.obj _ _ st7)) r7 (step x H7 y7)) fun _ s8 ⟨σ8, H8, I8, hw8, q8⟩ => ?_
      refine thnF ((pts_nil (X := X.blk s3 H3 scope ce fp)).run _ s8 σ8 H8 _ I8 q8) fun b s9 ⟨H9, I9, q9⟩ => ?_
      have onward : ∀ {s' : Shared} {H' : Hp}, Inv (X.blk s3 H3 scope ce fp) ([] ++ pinsAt fp s7.heap) σ8 H' s' → Nx H' → ∃ m, m < n ∧ ∃ i H', Inv (X.blk s3 H3 scope ce fp) [] (wipe σ (own.map (·.2))) H' s' ∧ tn i s'.heap ∧ (∀ b ∈ fp, H' b = none) ∧ W i m H' := fun {s' H'} I' nx => by
        obtain ⟨m', hm, w'⟩ := hNx H' nx
        have fixed : ∀ b ∈ fp, ∀ o, s7.heap.get? b = some o → s'.heap.get? b = some o ∧ H' b = none := fun b hbm o e =>
          let z := I'.pin (b, o) (List.mem_append_right _ (List.mem_append_right _ (mem_pinsAt hbm e)))
          ⟨z.1, z.2.1⟩
        refine ⟨m', hm, i + 1, H', (I'.unpinned (pins := [])).weak (by rw [← hw8, wipe_length]) (fun j v e => ?_), T.keep _ _ _ st7 fun b hbm o e => (fixed b hbm o e).1, fun b hbm => ?_, w'⟩
        · rw [← hw8] at e
          exact (wipe_some e).1
        · obtain ⟨o, e, _⟩ := T.obj _ _ st7 b hbm
          exact (fixed b hbm o e).2
      cases b with
      | false =>
        simp only [Bool.false_eq_true, if_false] at q9 ⊢
        exact onward I9 q9
      | true =>
        simp only [if_true] at q9 ⊢
        refine thnF (pe.run _ s9 σ8 H9 _ I9 q9) fun z s10 ⟨yv, H10, I10, r10, acc, hD10, hz10, nx⟩ => ?_
        exact app_ok (X := X.blk s3 H3 scope ce fp) I10 hD10 hz10 r10 fun s11 I11 => onward I11 nx
  exact codeAny_compStart_list loop (T.self X.A 0 _ _ _ st4 loop)
end
end LD

set_option autoImplicit true
set_option maxHeartbeats 4000000
/-! A list comprehension whose element's rule may use what holds in the frame where the block begins. -/
namespace LD
open PySem PySem.Spec PyProof.Rows L2 LamX
section
variable {X : Cx}
theorem pe_lcT {elt tg iter : Expr} {ifs : List Expr} {tt : L2.St → TT} {scope : Scope} {own : List (Str × Nat)} {pos : Pos} {wi : TI} {g : TG} {te : L2.St → TE} (hc : X.calm = true) (hN : X.N.Nodup) (hi : PI X tg iter wi) (ok : BlkOk X.N X.env.scope scope own)
    (hg : ∀ (s : Shared) (H : Hp) (C : Addr) (cl : List (Str × Addr)) (fp : List Addr), PG (X.blk s H scope (compEnvC scope cl C X.env) fp) tg g)
    (he : ∀ (pins : List (Addr × Obj)) (σ : L2.St) (s : Shared) (H : Hp) (C : Addr) (cl : List (Str × Addr)) (fp : List Addr), Inv X pins σ H s → (∀ b ∈ fp, FpOk X pins H b) → PE (X.blk s H scope (compEnvC scope cl C X.env) fp) elt (te σ))
    (ht : ∀ (pins : List (Addr × Obj)) (σ : L2.St) (s : Shared) (H : Hp) (C : Addr) (cl : List (Str × Addr)) (fp : List Addr), Inv X pins σ H s → (∀ b ∈ fp, FpOk X pins H b) → PTs (X.blk s H scope (compEnvC scope cl C X.env) fp) ifs (tt σ))
    (hs : ∀ x, foldedSetIterable iter X.env x = pure x := by intro _; rfl) :
    PE X (.ListComp elt [⟨tg, iter, ifs, 0⟩] scope pos) (fun σ H Q => tLc wi g (tt σ) (te σ) (own.map (·.2)) σ H Q) := by
  refine ⟨fun pins s σ H Q I0 h => ?_⟩
  rw [eval_ListComp]
  have caught : ∀ y ∈ scope.names, y.2 = .free → ∃ c, X.env.cells.lookup y.1 = some c := fun y hy e => I0.ok.has _ (by
    rcases ok.free y hy e with k | k
    · exact .inl k
    · exact .inr k)
  refine wpAny_comprehension_free (use := none) rfl hs (closure_ok caught) ok.kind (fun y hy e => by rw [ok.uniq y hy, e])
    (thn (hi.run pins s σ H _ I0 h) fun xv sa hx => thn hx fun itv sb hb => ?_)
  obtain ⟨it, fp, tn, J, Hb, e, Ib, T, stb, fb, q⟩ := hb
  subst e
  refine wpAny_newObj_type (newEnv_comp ?_) (by show 0 ≤ sizeLine; decide)
  generalize hD : sb.heap.objs.size = D
  have hDn : Hb D = none := Ib.hok.fresh (Nat.le_of_eq hD)
  obtain ⟨W, ⟨m0, w0⟩, turn⟩ := q D hDn
  generalize es3 : ({ sb with heap := sb.heap.push { cls := .type "list", data := .seq ([] : List Value).toArray } } : Shared) = s3
  have h3 : s3.heap = sb.heap.push { cls := .type "list", data := .seq ([] : List Value).toArray } := by rw [← es3]
  generalize eH3 : upd Hb D (.lst []) = H3 at w0
  have I3 : Inv X pins σ H3 s3 := by
    rw [← es3, ← eH3]
    refine Ib.laid (t' := sb.toks) (fun b o e => Heap.get?_push_of_some _ e) (Nat.le_of_eq hD) ⟨Nat.zero_le _, [], 0, .nil, ?_⟩
    rw [← hD]
    exact Heap.get?_push_size _ rfl
  have f3 : ∀ b ∈ fp, FpOk X pins H3 b ∧ b < s3.heap.objs.size := fun b hbm => by
    obtain ⟨o, eo, _⟩ := T.obj _ _ stb b hbm
    have hlt := Heap.lt_size eo
    refine ⟨⟨?_, (fb b hbm).2⟩, by rw [h3, Heap.size_push]; exact Nat.lt_succ_of_lt hlt⟩
    rw [← eH3, upd_ne (by rw [← hD]; exact Nat.ne_of_lt hlt)]
    exact (fb b hbm).1
  have I4 := block_start I3 ok hN f3
  have pg := hg s3 H3 s3.heap.objs.size (cellsFrom (s3.heap.objs.size + 1) scope.names (cloFrom X.env.cells scope.names [])) fp
  have pe := he pins σ s3 H3 s3.heap.objs.size (cellsFrom (s3.heap.objs.size + 1) scope.names (cloFrom X.env.cells scope.names [])) fp I3 fun b hbm => (f3 b hbm).1
  have pt := ht pins σ s3 H3 s3.heap.objs.size (cellsFrom (s3.heap.objs.size + 1) scope.names (cloFrom X.env.cells scope.names [])) fp I3 fun b hbm => (f3 b hbm).1
  show codeAny _ _ (.compStart (.ListComp elt [⟨tg, iter, ifs, 0⟩] scope pos) 0 (.ref it) (.ref D) (compEnvC scope (cellsFrom (s3.heap.objs.size + 1) scope.names (cloFrom X.env.cells scope.names [])) s3.heap.objs.size X.env)) (compPost (model X.prog X.w) X.A X.xe none (EP X pins σ Q) (.ref D) s3.heap.objs.size) { s3 with heap := pushCells (s3.heap.push { cls := .type "dict", data := .dict #[] }) scope.names }
  generalize hce : compEnvC scope (cellsFrom (s3.heap.objs.size + 1) scope.names (cloFrom X.env.cells scope.names [])) s3.heap.objs.size X.env = ce at I4 pg pe pt ⊢
  have cL : ce.locals = s3.heap.objs.size := by rw [← hce]; rfl
  generalize es4 : ({ s3 with heap := pushCells (s3.heap.push { cls := .type "dict", data := .dict #[] }) scope.names } : Shared) = s4 at I4 ⊢
  have st4 : tn 0 s4.heap := T.keep _ _ _ stb fun b _ o e => by
    rw [← es4]
    exact pushCells_keeps _ _ _ _ (Heap.get?_push_of_some _ (by rw [h3]; exact Heap.get?_push_of_some _ e))
  have still : ∀ {σ' : L2.St} {H' : Hp} {s' : Shared}, Inv (X.blk s3 H3 scope ce fp) [] σ' H' s' → (∀ b ∈ fp, H' b = none) → ∀ b ∈ fp, FpOk (X.blk s3 H3 scope ce fp) [] H' b := fun {σ' H' s'} I' hn b hbm =>
    ⟨hn b hbm, (I'.ok.exf b hbm).1, I'.ok.exfs b hbm, .inl hbm, fun x c e => (I'.ok.exf b hbm).2 x c e, fun p hp => absurd (show p ∈ ([] : List (Addr × Obj)) ++ [] from hp) (by simp)⟩
  have loop : codeAny (model X.prog X.w) X.A (.compLoop (.ListComp elt [⟨tg, iter, ifs, 0⟩] scope pos) 0 (.ref it) (.ref D) ce) (compPost (model X.prog X.w) X.A X.xe none (EP X pins σ Q) (.ref D) s3.heap.objs.size) s4 := by
    refine compLoop_any (fun n s' => ∃ i H', Inv (X.blk s3 H3 scope ce fp) [] (wipe σ (own.map (·.2))) H' s' ∧ tn i s'.heap ∧ (∀ b ∈ fp, H' b = none) ∧ W i n H') ?_ m0 ⟨0, H3, I4, st4, fun b hbm => (f3 b hbm).1.1, w0⟩
    rintro n s5 ⟨i, H5, I5, st5, n5, w5⟩
    rcases turn i n H5 w5 with ⟨stop, qq⟩ | ⟨go, Nx, hNx, step⟩
    · refine thnF (T.done (X.blk s3 H3 scope ce fp) rfl rfl rfl hc i [] s5 _ H5 (fun _ _ => False) I5 (still I5 n5) st5 stop) fun r s6 ⟨hr, I6⟩ => ?_
      subst hr
      have I7 : Inv X pins σ H5 s6 := I3.call' (ch := fp) I6.os I6.base I6.hok I6.bare fun b hbm => ⟨(f3 b hbm).1.2.2.2.1, (f3 b hbm).1.2.1, (f3 b hbm).1.2.2.2.2.1, (f3 b hbm).1.2.2.2.2.2⟩
      have nC : H5 s3.heap.objs.size = none := by
        rw [← cL]
        exact I6.free
      obtain ⟨m, hn, _⟩ := I6.loc
      have hn' : s6.heap.Ns s3.heap.objs.size m := by
        rw [← cL]
        exact hn
      obtain ⟨k0, k1, k3, k4, k5, k6⟩ := I3.fpOk (Nat.le_refl _) nC
      exact ⟨m, hn', fun h'' sbt => ⟨.ref D, H5, I7.turned (t' := s6.toks) (fun b o hbn e => (sbt.2 b hbn).trans e) k0 k1 k4 k5 k6, rfl, qq⟩⟩
    · refine thnF (T.item (X.blk s3 H3 scope ce fp) rfl rfl rfl hc i [] s5 _ H5 (fun _ _ => False) I5 (still I5 n5) st5 go) fun r s6 ⟨u, hr, h6⟩ => ?_
      subst hr
      refine thnF h6 fun _ s7 ⟨x, H7, I7, r7, y7, st7, n7⟩ => ?_
      refine thnF (pg.run _ s7 _ H7 x u _ (I7.pinned (still I7 n7) (T.obj _ _ st7)) r7 (step x H7 y7)) fun _ s8 ⟨σ8, H8, I8, hw8, q8⟩ => ?_
      refine thnF (pt.run _ s8 σ8 H8 _ I8 q8) fun b s9 ⟨H9, I9, q9⟩ => ?_
      have onward : ∀ {s' : Shared} {H' : Hp}, Inv (X.blk s3 H3 scope ce fp) ([] ++ pinsAt fp s7.heap) σ8 H' s' → Nx H' → ∃ m, m < n ∧ ∃ i H', Inv (X.blk s3 H3 scope ce fp) [] (wipe σ (own.map (·.2))) H' s' ∧ tn i s'.heap ∧ (∀ b ∈ fp, H' b = none) ∧ W i m H' := fun {s' H'} I' nx => by
        obtain ⟨m', hm, w'⟩ := hNx H' nx
        have fixed : ∀ b ∈ fp, ∀ o, s7.heap.get? b = some o → s'.heap.get? b = some o ∧ H' b = none := fun b hbm o e =>
          let z := I'.pin (b, o) (List.mem_append_right _ (List.mem_append_right _ (mem_pinsAt hbm e)))
          ⟨z.1, z.2.1⟩
        refine ⟨m', hm, i + 1, H', (I'.unpinned (pins := [])).weak (by rw [← hw8, wipe_length]) (fun j v e => ?_), T.keep _ _ _ st7 fun b hbm o e => (fixed b hbm o e).1, fun b hbm => ?_, w'⟩
        · rw [← hw8] at e
          exact (wipe_some e).1
        · obtain ⟨o, e, _⟩ := T.obj _ _ st7 b hbm
          exact (fixed b hbm o e).2
      cases b with
      | false =>
        simp only [Bool.false_eq_true, if_false] at q9 ⊢
        exact onward I9 q9
      | true =>
        simp only [if_true] at q9 ⊢
        refine thnF (pe.run _ s9 σ8 H9 _ I9 q9) fun z s10 ⟨yv, H10, I10, r10, acc, hD10, hz10, nx⟩ => ?_
        exact app_ok (X := X.blk s3 H3 scope ce fp) I10 hD10 hz10 r10 fun s11 I11 => onward I11 nx
  exact codeAny_compStart_list loop (T.self X.A 0 _ _ _ st4 loop)
end
end LD

set_option autoImplicit true
/-! The rows of the text, and the short words. -/
namespace N8
open PySem PySem.Spec PyProof.Rows L2
def topS (i : Nat) : Stmt := PySem.Challenge.pw_typegate_k13_needed_places.main.body.getD i (.Pass ⟨0, 0, 0, 0⟩)
abbrev sIsName : Stmt := topS 16
theorem scIsName : FnScope ["thing", "sign"] ["thing"] (L2.defScope sIsName) := ⟨rfl, rfl, rfl, by decide +kernel, rfl, by decide +kernel, by decide +kernel⟩
abbrev sIsNameSign : Stmt := topS 17
theorem scIsNameSign : FnScope ["sign"] ["sign"] (L2.defScope sIsNameSign) := ⟨rfl, rfl, rfl, by decide +kernel, rfl, by decide +kernel, by decide +kernel⟩
abbrev sIsClassName : Stmt := topS 18
theorem scIsClassName : FnScope ["thing", "part"] ["thing"] (L2.defScope sIsClassName) := ⟨rfl, rfl, rfl, by decide +kernel, rfl, by decide +kernel, by decide +kernel⟩
abbrev sIsMethodName : Stmt := topS 19
theorem scIsMethodName : FnScope ["thing"] ["thing"] (L2.defScope sIsMethodName) := ⟨rfl, rfl, rfl, by decide +kernel, rfl, by decide +kernel, by decide +kernel⟩
abbrev sIsFieldDescriptor : Stmt := topS 20
theorem scIsFieldDescriptor : FnScope ["thing"] ["thing"] (L2.defScope sIsFieldDescriptor) := ⟨rfl, rfl, rfl, by decide +kernel, rfl, by decide +kernel, by decide +kernel⟩
abbrev sIsMethodDescriptor : Stmt := topS 21
theorem scIsMethodDescriptor : FnScope ["thing"] ["thing"] (L2.defScope sIsMethodDescriptor) := ⟨rfl, rfl, rfl, by decide +kernel, rfl, by decide +kernel, by decide +kernel⟩
abbrev sPlacesOf : Stmt := topS 23
theorem scPlacesOf : FnScope ["descriptors", "descriptor"] ["descriptors"] (L2.defScope sPlacesOf) := ⟨rfl, rfl, rfl, by decide +kernel, rfl, by decide +kernel, by decide +kernel⟩
abbrev sResult : Stmt := topS 24
theorem scResult : FnScope ["descriptor", "parts"] ["descriptor"] (L2.defScope sResult) := ⟨rfl, rfl, rfl, by decide +kernel, rfl, by decide +kernel, by decide +kernel⟩
abbrev sMethodParts : Stmt := topS 25
theorem scMethodParts : FnScope ["thing", "parts", "at", "end", "last"] ["thing"] (L2.defScope sMethodParts) := ⟨rfl, rfl, rfl, by decide +kernel, rfl, by decide +kernel, by decide +kernel⟩
abbrev sFieldEnd : Stmt := topS 26
theorem scFieldEnd : FnScope ["text", "begin", "at", "end"] ["text", "begin"] (L2.defScope sFieldEnd) := ⟨rfl, rfl, rfl, by decide +kernel, rfl, by decide +kernel, by decide +kernel⟩
abbrev sIsInteger : Stmt := topS 1
theorem scIsInteger : FnScope ["thing"] ["thing"] (L2.defScope sIsInteger) := ⟨rfl, rfl, rfl, by decide +kernel, rfl, by decide +kernel, by decide +kernel⟩
abbrev sIsWithin : Stmt := topS 2
theorem scIsWithin : FnScope ["thing", "low", "high"] ["thing", "low", "high"] (L2.defScope sIsWithin) := ⟨rfl, rfl, rfl, by decide +kernel, rfl, by decide +kernel, by decide +kernel⟩
abbrev sIsRow : Stmt := topS 3
theorem scIsRow : FnScope ["thing"] ["thing"] (L2.defScope sIsRow) := ⟨rfl, rfl, rfl, by decide +kernel, rfl, by decide +kernel, by decide +kernel⟩
abbrev sIsTupleOf : Stmt := topS 4
theorem scIsTupleOf : FnScope ["thing", "many"] ["thing", "many"] (L2.defScope sIsTupleOf) := ⟨rfl, rfl, rfl, by decide +kernel, rfl, by decide +kernel, by decide +kernel⟩
abbrev sIsText : Stmt := topS 32
theorem scIsText : FnScope ["thing", "sign"] ["thing"] (L2.defScope sIsText) := ⟨rfl, rfl, rfl, by decide +kernel, rfl, by decide +kernel, by decide +kernel⟩
abbrev sIsString : Stmt := topS 41
theorem scIsString : FnScope ["thing"] ["thing"] (L2.defScope sIsString) := ⟨rfl, rfl, rfl, by decide +kernel, rfl, by decide +kernel, by decide +kernel⟩
abbrev sKeptInterfaces : Stmt := topS 58
theorem scKeptInterfaces : FnScope ["interfaces", "number", "name"] ["interfaces"] (L2.defScope sKeptInterfaces) := ⟨rfl, rfl, rfl, by decide +kernel, rfl, by decide +kernel, by decide +kernel⟩
abbrev sIsRowOfFlags : Stmt := topS 59
theorem scIsRowOfFlags : FnScope ["thing", "word"] ["thing"] (L2.defScope sIsRowOfFlags) := ⟨rfl, rfl, rfl, by decide +kernel, rfl, by decide +kernel, by decide +kernel⟩
abbrev sInOrder : Stmt := topS 60
theorem scInOrder : FnScope ["flags", "word"] ["flags"] (L2.defScope sInOrder) := ⟨rfl, rfl, rfl, by decide +kernel, rfl, by decide +kernel, by decide +kernel⟩
abbrev sKeptMembers : Stmt := topS 61
theorem scKeptMembers : FnScope ["members", "word", "is_member", "number", "member", "name", "descriptor", "flags", "worth"] ["members", "word", "is_member"] (L2.defScope sKeptMembers) := ⟨rfl, rfl, rfl, by decide +kernel, rfl, by decide +kernel, by decide +kernel⟩
abbrev sIsField : Stmt := topS 62
theorem scIsField : FnScope ["member", "name", "descriptor", "flags", "constant"] ["member"] (L2.defScope sIsField) := ⟨rfl, rfl, rfl, by decide +kernel, rfl, by decide +kernel, by decide +kernel⟩
abbrev sIsConstant : Stmt := topS 63
theorem scIsConstant : FnScope ["thing"] ["thing"] (L2.defScope sIsConstant) := ⟨rfl, rfl, rfl, by decide +kernel, rfl, by decide +kernel, by decide +kernel⟩
abbrev sIsMethod : Stmt := topS 64
theorem scIsMethod : FnScope ["member", "name", "descriptor", "flags", "code"] ["member"] (L2.defScope sIsMethod) := ⟨rfl, rfl, rfl, by decide +kernel, rfl, by decide +kernel, by decide +kernel⟩
abbrev sLawWell : Stmt := topS 76
theorem scLawWell : FnScope ["cell"] ["cell"] (L2.defScope sLawWell) := ⟨rfl, rfl, rfl, by decide +kernel, rfl, by decide +kernel, by decide +kernel⟩
abbrev sLawDraw : Stmt := topS 77
theorem scLawDraw : FnScope ["well", "many", "digit", "number", "more"] ["well", "many"] (L2.defScope sLawDraw) := ⟨rfl, rfl, rfl, by decide +kernel, rfl, by decide +kernel, by decide +kernel⟩
abbrev sLawOne : Stmt := topS 78
theorem scLawOne : FnScope ["well", "some"] ["well", "some"] (L2.defScope sLawOne) := ⟨rfl, rfl, rfl, by decide +kernel, rfl, by decide +kernel, by decide +kernel⟩

end N8

namespace N8
open PySem PySem.Spec PyProof.Rows L2 Evl
open SX (S)
set_option autoImplicit false
abbrev FnP (K : PySem.W.Frag) (x : Str) (st : Stmt) (f : Addr) (fd : FuncData) : Prop := FunD K x x (L2.defArgs st) (L2.defBody st) (L2.defScope st) [] [] f fd
/-- a def that may be called by its name -/
structure Cl (P : Program) (w : World) (K : PySem.W.Frag) (mg : Str → Option Value) (base : Heap) (CX : CXT) (k : Nat) (x : Str) (ps : List Str) (sp : Sp) : Prop where
  ex : ∃ (f : Addr) (fd : FuncData), FnOk P w K mg base CX k f fd ps sp ∧ mg x = some (.ref f) ∧ PySem.W.keepIn K (.ref f) = true ∧ Binds K fd ps []
theorem pe_cl {X : Cx} {k j : Nat} {x : Str} {ps : List Str} {sp : Sp} {p pos : Pos} {e : Expr} {es : List Expr} {t : TA} (c : Cl X.prog X.w X.K X.mg X.base L2.CX0 k x ps sp) (hr : Room j X.A) (hk : k ≤ j) (hg : Gl X x) (ha : PA X (e :: es) t)
    (hdb : (x == ("__debug__" : Str)) = false := by decide) (he : starEach (e :: es) X.env = (false, eval e X.env) :: starEach es X.env := by rfl) (hpl : (backTo pos (starEach es X.env)).any (·.1) = false := by rfl) :
    PE X (.Call (.Name x p) (e :: es) [] pos) (tCall sp [] L2.E0 t) := by
  obtain ⟨f, fd, F, hm, hkp, hb⟩ := c.ex
  exact pe_call F (hr.mono hk) hg hm hkp hb .nil L2.pass0 ha hdb he hpl
theorem room_mono_check {A : Around} {j k : Nat} (hr : Room j A) (hk : k ≤ j) : Room k A := hr.mono hk
/-- the built-ins that the text uses -/
structure Bt (mg : Str → Option Value) : Prop where
  isi : mg "isinstance" = none
  str : mg "str" = none
  len : mg "len" = none
  all : mg "all" = none
  sum : mg "sum" = none
  int : mg "int" = none
  range : mg "range" = none
  bool : mg "bool" = none
  list : mg "list" = none
  tuple : mg "tuple" = none
  set : mg "set" = none
  ord : mg "ord" = none
  sorted : mg "sorted" = none
  enumerate : mg "enumerate" = none
  any : mg "any" = none
  max : mg "max" = none
  zip : mg "zip" = none
/-! ### numbers of signs -/
theorem lt1 (a b : Nat) : ([a] < [b]) ↔ a < b := by
  constructor
  · intro h
    cases h with
    | rel h => exact h
    | cons h => cases h
  · intro h
    exact List.Lex.rel h
theorem le1 (a b : Nat) : (!decide ([b] < [a])) = decide (a ≤ b) := by
  by_cases h : a ≤ b
  · rw [decide_eq_true h, decide_eq_false (fun q => by have := (lt1 b a).mp q; omega)]; rfl
  · rw [decide_eq_false h, decide_eq_true ((lt1 b a).mpr (by omega))]; rfl
/-- a sign of a name -/
def isSign (c : Nat) : Bool := (decide (97 ≤ c) && decide (c ≤ 122)) || ((decide (65 ≤ c) && decide (c ≤ 90)) || ((decide (48 ≤ c) && decide (c ≤ 57)) || (decide (c = 95) || decide (c = 36))))
def isNameL (l : List Nat) : Bool := (decide (1 ≤ l.length) && decide (l.length ≤ 30)) && l.all isSign
def isClassL (l : List Nat) : Bool := decide (l.length ≤ 60) && (TL.spl [47] 0 [] l).all isNameL
/-! ### what readings come to -/
section
variable {K : PySem.W.Frag} {σ : L2.St} {H H' : Hp} {ta tb tc te : TE} {t u : TT} {x y z v : V}
theorem ev_chain {r r' : R2} {a b : Bool} (ha : Ev ta σ H x) (hb : Ev tb σ H y) (h1 : RV r x y H (.bl a)) (h2 : a = true → Ev tc σ H z ∧ RV r' y z H (.bl b)) : Ev (tChain r r' ta tb tc) σ H (.bl (a && b)) := fun H1 e Q q =>
  ha H1 e _ fun H2 e2 => hb H2 (e.trans e2) _ fun H3 e3 => h1 H3 ((e.trans e2).trans e3) _ fun H4 e4 => ⟨a, rfl, by
    cases a with
    | true =>
      obtain ⟨hc, hr⟩ := h2 rfl
      have e5 := ((e.trans e2).trans e3).trans e4
      show tc σ H4 fun w' H5 => r' y w' H5 Q
      exact hc H4 e5 _ fun H5 e6 => hr H5 (e5.trans e6) _ fun H6 e7 => q H6 ((((e2.trans e3).trans e4).trans e6).trans e7)
    | false =>
      show Q (.bl false) H4
      exact q H4 ((e2.trans e3).trans e4)⟩
abbrev rLeS : R2 := fun x y H Q => ∃ i j, x = V.str i ∧ y = V.str j ∧ Q (V.bl !decide (j.cps.toList < i.cps.toList)) H
theorem rv_leS {a b : Nat} {z1 z2 : Str} (e1 : z1 = S [a]) (e2 : z2 = S [b]) : RV rLeS (.str z1) (.str z2) H (.bl (decide (a ≤ b))) := fun H1 _ Q q => by
  subst e1 e2
  refine ⟨_, _, rfl, rfl, ?_⟩
  have f : (!decide ((S [b]).cps.toList < (S [a]).cps.toList)) = decide (a ≤ b) := le1 a b
  rw [f]
  exact q H1 (Ex.refl H1)
theorem inV_sign {c : Nat} : ∀ {zs : List Nat}, inV (V.str (S [c])) (zs.map fun a => V.str (S [a])) = zs.any fun a => decide (c = a)
  | [] => rfl
  | a :: r => by
    have h : eqV (V.str (S [a])) (V.str (S [c])) = decide (c = a) := by
      show (S [a] == S [c]) = _
      rw [SX.S_beq_eq]
      by_cases e : c = a
      · subst e
        rw [decide_eq_true rfl, decide_eq_true rfl]
      · rw [decide_eq_false e, decide_eq_false (fun q => e (by injection q with q _; exact q.symm))]
    show (eqV (V.str (S [a])) (V.str (S [c])) || inV (V.str (S [c])) (r.map fun a => V.str (S [a]))) = (decide (c = a) || r.any fun a => decide (c = a))
    rw [h, inV_sign]
/-- not a text -/
def NoStr (K : PySem.W.Frag) (H : Hp) (x : V) : Prop := ∃ T : String, TyX K H x (.type T) ∧ kitB T "str" = some false
theorem TyOf.ex {t : Value} (e : Ex H H') (h : TyOf K H x t) : TyOf K H' x t := by
  cases h with
  | non => exact .non
  | bl b => exact .bl b
  | int i => exact .int i
  | str z => exact .str z
  | flt b => exact .flt b
  | lst h => exact .lst (e _ _ h)
  | frz h => exact .frz (e _ _ h)
  | tup h => exact .tup (e _ _ h)
  | dK h => exact .dK (e _ _ h)
  | dT h => exact .dT (e _ _ h)
  | ins h a b c d f => exact .ins (e _ _ h) a b c d f
theorem TyX.ex {t : Value} (e : Ex H H') (h : TyX K H x t) : TyX K H' x t := by
  cases h with
  | base h => exact .base (TyOf.ex e h)
  | byt b => exact .byt b
  | set h => exact .set (e _ _ h)
  | kList a b => exact .kList a b
  | kTuple a b => exact .kTuple a b
  | kDict a b => exact .kDict a b
  | fTuple h => exact .fTuple (e _ _ h)
  | fDict h => exact .fDict (e _ _ h)
theorem NoStr.ex (e : Ex H H') (h : NoStr K H x) : NoStr K H' x := by
  obtain ⟨T, a, b⟩ := h
  exact ⟨T, TyX.ex e a, b⟩
theorem ev_isi {T U : String} {b : Bool} (h : Ev te σ H x) (ty : TyX K H x (.type T)) (k : kitB T U = some b) : Ev (tCB (rIsi K) (tCons te (tCons (tC (.ty U)) tNil))) σ H (.bl b) := fun H1 e Q q =>
  h H1 e _ fun H2 e2 => ⟨x, .ty U, .type T, .type U, b, rfl, .ty U, TyX.ex (e.trans e2) ty, kit_ty k, q H2 e2⟩
theorem ev_isStr {l : Str} (h : Ev te σ H (.str l)) : Ev (tCB (rIsi K) (tCons te (tCons (tC (.ty "str")) tNil))) σ H (.bl true) := ev_isi h (.base (.str l)) (by decide +kernel)
theorem ev_noStr (h : Ev te σ H x) (n : NoStr K H x) : Ev (tCB (rIsi K) (tCons te (tCons (tC (.ty "str")) tNil))) σ H (.bl false) := by
  obtain ⟨T, a, b⟩ := n
  exact ev_isi h a b
abbrev rLenT : List V → Hp → VK → Prop := fun xs H Q => ∃ z, xs = [.str z] ∧ z.length ≤ sizeLine ∧ Q (.int z.length) H
theorem ev_lenS {l : List Nat} (h : Ev te σ H (.str (S l))) (hl : l.length ≤ 40000) : Ev (tCB rLenT (tCons te tNil)) σ H (.int (l.length : Int)) := fun H1 e Q q =>
  h H1 e _ fun H2 e2 => ⟨S l, rfl, by rw [SX.S_len]; exact sz_of (by omega), by rw [SX.S_len]; exact q H2 e2⟩
theorem ev_all {bs : List Bool} (h : EvL te σ H (bs.map V.bl)) : Ev (tCB (rAll K) (tCons te tNil)) σ H (.bl (bs.all id)) := fun H1 e Q q =>
  h H1 e _ fun p H2 hp e2 h2 => ⟨p, bs, rfl, sq_of h2, q H2 e2⟩
theorem ev_sum {ns : List Int} (h : EvL te σ H (ns.map V.int)) : Ev (tCB (rSum K) (tCons te tNil)) σ H (.int ns.sum) := fun H1 e Q q =>
  h H1 e _ fun p H2 hp e2 h2 => ⟨p, ns, rfl, sq_of h2, q H2 e2⟩
/-- a comprehension over a text -/
theorem el_lcS {l : List Nat} {tl : TE} {j : Nat} {vs : List Nat} (f : Nat → Bool) (v : Nat → V) (h : Ev tl σ H (.str (S l))) (hz : l.length ≤ 40000) (hw : ∀ x, wipe ((wipe σ vs).set j (some x)) vs = wipe σ vs)
    (ht : ∀ (i c : Nat) H1, Ex H H1 → l[i]? = some c → EvT t ((wipe σ vs).set j (some (.str (S [c])))) H1 (f i)) (he : ∀ (i c : Nat) H1, Ex H H1 → l[i]? = some c → f i = true → Ev te ((wipe σ vs).set j (some (.str (S [c])))) H1 (v i)) :
    EvL (tLc (iStr tl) (gName j) t te vs) σ H (given l.length f v) := fun H0 e Q q => h H0 e _ fun H1 e1 => ⟨S l, rfl, fun Dl hD =>
  lc_it (n := l.length) (walk_str (z := S l)) (Cw H1 f v Dl) ⟨hD, Ex.new hD, upd_same⟩ (fun _ _ _ _ => True.intro) (fun i x H' H2 hi p y => by
    obtain ⟨rfl, c, hc, rfl⟩ := y
    have hc2 : l[i]? = some c := by
      have : (S l).cps[i]? = l[i]? := by simp [S]
      rw [← this]
      exact hc
    exact ⟨hw _, cw_turn p (by omega) (ht i c H1 (e.trans e1) hc2) (fun hf => he i c H1 (e.trans e1) hc2 hf)⟩)
    (fun H' p => q Dl H' (fresh_back e1 p.1) (e1.trans p.2.1) p.2.2)⟩
theorem given_all {α : Type} (l : List α) (g : α → V) (v : Nat → V) (h : ∀ i c, l[i]? = some c → v i = g c) : given l.length (fun _ => true) v = l.map g := by
  unfold given
  rw [List.filter_eq_self.mpr (fun _ _ => rfl)]
  refine List.ext_getElem? fun i => ?_
  rw [List.getElem?_map, List.getElem?_map]
  by_cases hi : i < l.length
  · rw [List.getElem?_range hi, List.getElem?_eq_getElem hi]
    exact congrArg some (h i _ (List.getElem?_eq_getElem hi))
  · rw [List.getElem?_eq_none (by rw [List.length_range]; omega), List.getElem?_eq_none (by omega)]
    rfl
end
section
variable {P : Program} {w : World} {K : PySem.W.Frag} {mg : Str → Option Value} {base : Heap}
def spSign : Sp := fun vs H Q _ => ∃ c : Nat, vs = [.str (S [c])] ∧ RetV (.bl (isSign c)) H Q
theorem ok_sign {f : Addr} {fd : FuncData} (F : FnP K "_is_name_sign" sIsNameSign f fd) : FnOk P w K mg base L2.CX0 1 f fd ["sign"] spSign := by
  refine F.ok scIsNameSign (fun vs H Q E h => ?_) (fun cdv A outer s H vs Q E hr h => ?_)
  · obtain ⟨c, rfl, _⟩ := h
    rfl
  · obtain ⟨c, rfl, q⟩ := h
    refine ⟨_, pss_one (ps_ret (pe_or (pe_chain op_le_str op_le_str pe_str (pv 0) pe_str) (pe_or (pe_chain op_le_str op_le_str pe_str (pv 0) pe_str) (pe_or (pe_chain op_le_str op_le_str pe_str (pv 0) pe_str) (pe_one (pe_cmpR op_in_seq (pv 0) (pe_tup (pa_cons pe_str (pa_cons pe_str pa_nil))) rfl)))))), ?_⟩
    refine s_ret (v := .bl (isSign c)) ?_ q
    refine ev_orV (ev_chain ev_c (ev_var rfl) (rv_leS (a := 97) (by decide +kernel) rfl) fun _ => ⟨ev_c, rv_leS (b := 122) rfl (by decide +kernel)⟩) fun _ => ?_
    refine ev_orV (ev_chain ev_c (ev_var rfl) (rv_leS (a := 65) (by decide +kernel) rfl) fun _ => ⟨ev_c, rv_leS (b := 90) rfl (by decide +kernel)⟩) fun _ => ?_
    refine ev_orV (ev_chain ev_c (ev_var rfl) (rv_leS (a := 48) (by decide +kernel) rfl) fun _ => ⟨ev_c, rv_leS (b := 57) rfl (by decide +kernel)⟩) fun _ => ?_
    refine ev_is (ev_inU (ev_var rfl) (eu_tup (ea_cons ev_c (ea_cons ev_c ea_nil)) (by decide)) rfl rfl) ?_
    have e : [V.str (Str.ofString "_"), V.str (Str.ofString "$")] = [95, 36].map fun a => V.str (S [a]) := by decide +kernel
    rw [e, inV_sign]
    simp [List.any]
end
end N8

set_option autoImplicit false
namespace N8
open PySem PySem.Spec PyProof.Rows L2 Evl
open SX (S)
section
variable {K : PySem.W.Frag} {σ : L2.St} {H H' : Hp} {ta tb tc te : TE} {t u : TT} {x y z v : V}
/-- a text, of which f tells b; or no text -/
def Told (K : PySem.W.Frag) (H : Hp) (x : V) (f : List Nat → Bool) (b : Bool) : Prop := (∃ l, x = .str (S l) ∧ l.length ≤ 20000 ∧ b = f l) ∨ (NoStr K H x ∧ b = false)
theorem Told.ex {f : List Nat → Bool} {b : Bool} (e : Ex H H') (h : Told K H x f b) : Told K H' x f b := by
  rcases h with h | ⟨h, e2⟩
  · exact .inl h
  · exact .inr ⟨NoStr.ex e h, e2⟩
theorem rv_le {i j : Int} : RV (rI0 fun i j => .bl (decide (i ≤ j))) (.int i) (.int j) H (.bl (decide (i ≤ j))) := rv_I0
theorem rv_is {r : R2} (h : RV r x y H z) (e : z = v) : RV r x y H v := e ▸ h
theorem bl_iff {p q : Prop} [Decidable p] [Decidable q] (h : p ↔ q) : V.bl (decide p) = V.bl (decide q) := congrArg V.bl (decide_eq_decide.mpr h)
theorem all_map {α : Type} (l : List α) (f : α → Bool) : (l.map f).all id = l.all f := by
  rw [List.all_map]; rfl
theorem map_bl {α : Type} (l : List α) (f : α → Bool) : l.map (fun c => V.bl (f c)) = (l.map f).map V.bl := by
  rw [List.map_map]; rfl
theorem getD_of {α : Type} {l : List α} {i : Nat} {c d : α} (h : l[i]? = some c) : l.getD i d = c := by
  rw [List.getD_eq_getElem?_getD, h]; rfl
end
section
variable {P : Program} {w : World} {K : PySem.W.Frag} {mg : Str → Option Value} {base : Heap}
def spName (K : PySem.W.Frag) (f : List Nat → Bool) : Sp := fun vs H Q _ => ∃ (x : V) (b : Bool), vs = [x] ∧ Told K H x f b ∧ RetV (.bl b) H Q
theorem ok_isName {f : Addr} {fd : FuncData} (F : FnP K "is_name" sIsName f fd) (B : Bt mg) (c1 : Cl P w K mg base L2.CX0 1 "_is_name_sign" ["sign"] spSign) (g30 : ∃ t, mg "LONGEST_NAME" = some (.int 30 t)) :
    FnOk P w K mg base L2.CX0 2 f fd ["thing"] (spName K isNameL) := by
  obtain ⟨t30, g30⟩ := g30
  refine F.ok scIsName (fun vs H Q E h => ?_) (fun cdv A outer s H vs Q E hr h => ?_)
  · obtain ⟨x, b, rfl, _⟩ := h
    rfl
  · obtain ⟨x, b, rfl, hx, q⟩ := h
    refine ⟨_, pss_cons (ps_if (PW.pt (pw_or (pt_not (pt_val (pe_callB call_isi (by rfl) B.isi (by decide +kernel) (pa_cons (pv 0) (pa_cons (pe_bltn (v := .ty "str") (by rfl) B.str (by decide +kernel) rfl) pa_nil)))))
        (pw_or1 (pt_not (pt_chain op_le op_le pe_int (pe_callB call_len_str (by rfl) B.len PySem.boot_len (pa_cons (pv 0) pa_nil)) (pe_glob (v := .int 30) (by rfl) g30 ⟨_, rfl⟩))))))
        (pss_one (ps_ret pe_bl)) pss_nil)
      (pss_one (ps_ret (pe_callB (cr_all rfl) (by rfl) B.all (by decide +kernel) (pa_cons (pe_lc (own := [("sign", 1)]) (g := gName 1) (tt := tYes) rfl scIsName.nd (pi_str (pv 0)) (blkOk_by (N := ["thing", "sign"]) (sc := L2.defScope sIsName) (by decide +kernel)) (fun _ _ _ _ _ => pg_name (i := 1) scIsName.nd rfl (Or.inl rfl)) (fun _ _ _ _ _ => pts_nil)
        (fun _ _ _ _ _ => pe_cl c1 hr (by decide) (by rfl) (pa_cons (pv 1) pa_nil))) pa_nil)))), ?_⟩
    rcases hx with ⟨l, rfl, hl, rfl⟩ | ⟨hn, rfl⟩
    · refine q_when (b := !(decide (1 ≤ l.length) && decide (l.length ≤ 30))) ?_ (fun e H1 x1 => ?_) (fun e H1 x1 => ?_)
      · refine et_is (et_or (et_not (et_B (ev_isStr (ev_var rfl)))) fun _ => et_not (et_test (ev_chain (a := decide (1 ≤ l.length)) (b := decide (l.length ≤ 30)) ev_c (ev_lenS (ev_var rfl) (by omega)) ?_ fun _ => ⟨ev_c, ?_⟩))) ?_
        · exact rv_is rv_le (bl_iff (by omega))
        · exact rv_is rv_le (bl_iff (by omega))
        · rfl
      · refine s_ret (v := .bl (isNameL l)) (ev_is ev_c ?_) (fun H2 x2 => q H2 (x1.trans x2))
        unfold isNameL
        rw [Bool.not_eq_true'] at e
        rw [e]; rfl
      · refine s_ret (v := .bl (isNameL l)) (ev_is (ev_all (bs := l.map isSign) ?_) ?_) (fun H2 x2 => q H2 (x1.trans x2))
        · rw [Bool.not_eq_false'] at e
          have el : l.length ≤ 30 := by
            have := (Bool.and_eq_true_iff.mp e).2
            exact of_decide_eq_true this
          rw [← map_bl, ← given_all l (fun c => V.bl (isSign c)) (fun i => .bl (isSign (l.getD i 0))) (fun i c h => by rw [getD_of h])]
          refine el_lcS (fun _ => true) _ (ev_var rfl) (by omega) (fun _ => rfl) (fun i c H2 _ hc => fun H3 e3 Q q => q H3 (Ex.refl H3)) (fun i c H2 _ hc _ => ?_)
          rw [getD_of hc]
          exact ev_call (ea_cons (ev_var rfl) ea_nil) (fun H3 e3 Q q E => ⟨c, rfl, q⟩)
        · rw [Bool.not_eq_false'] at e
          unfold isNameL
          rw [e, all_map]; rfl
    · refine q_when (b := true) ?_ (fun e H1 x1 => ?_) (fun e H1 x1 => by cases e)
      · exact et_is (et_or (b := false) (et_not (et_B (ev_noStr (ev_var rfl) hn))) fun e => by cases e) rfl
      · exact s_ret ev_c (fun H2 x2 => q H2 (x1.trans x2))
end
end N8

set_option autoImplicit false
namespace N8
open PySem PySem.Spec PyProof.Rows L2 Evl
open SX (S)
theorem spl_len (c : Nat) : ∀ (l acc : List Nat) (p : List Nat), p ∈ TL.spl [c] 0 acc l → p.length ≤ acc.length + l.length
  | [], acc, p, h => by
    rw [TL.spl_nil] at h
    rw [List.mem_singleton.mp h]
    exact Nat.le_add_right _ _
  | d :: r, acc, p, h => by
    cases hp : TL.pre [c] (d :: r) with
    | true =>
      rw [TL.spl_hit hp] at h
      rcases List.mem_cons.mp h with rfl | h
      · exact Nat.le_add_right _ _
      · have := spl_len c r [] p h
        simp only [List.length_nil, List.length_cons] at this ⊢
        omega
    | false =>
      rw [TL.spl_miss hp] at h
      have := spl_len c r (acc ++ [d]) p h
      simp only [List.length_append, List.length_nil, List.length_cons] at this ⊢
      omega
theorem spl_num (c : Nat) : ∀ (l acc : List Nat), (TL.spl [c] 0 acc l).length ≤ 1 + l.length
  | [], acc => by
    rw [TL.spl_nil]
    exact Nat.le_refl _
  | d :: r, acc => by
    cases hp : TL.pre [c] (d :: r) with
    | true =>
      rw [TL.spl_hit hp, show TL.spl [c] ([c].length - 1) [] r = TL.spl [c] 0 [] r from rfl, List.length_cons, List.length_cons]
      have := spl_num c r []
      omega
    | false =>
      rw [TL.spl_miss hp]
      have := spl_num c r (acc ++ [d])
      simp only [List.length_cons] at this ⊢
      omega
section
variable {K : PySem.W.Frag} {σ : L2.St} {H H' : Hp} {ta tb tc te : TE} {t u : TT} {x y z v : V}
abbrev rSplit : V → List V → Hp → VK → Prop := fun x xs H Q => ∃ a b, x = .str a ∧ xs = [.str b] ∧ (b.length == 0) = false ∧ a.length + 2 ≤ sizeLine ∧ rNewStrs (Txt.split a b) H Q
theorem el_split {l : List Nat} {z : Str} {c : Nat} (ez : z = S [c]) (hc : c < 256) (h : Ev ta σ H (.str (S l))) (hl : l.length ≤ 40000) : EvL (tM1 rSplit ta (tC (.str z))) σ H ((TL.spl [c] 0 [] l).map fun p => .str (S p)) := fun H1 e Q q =>
  h H1 e _ fun H2 e2 => ⟨⟨_, rfl⟩, S l, z, rfl, rfl, by subst ez; rfl, by rw [SX.S_len]; exact sz_of (by omega), fun p hp => q p _ (fresh_back e2 hp) (e2.trans (Ex.new hp)) (by
    subst ez
    rw [SX.split_S (by simp) (by simp [hc]), List.map_map, upd_same]
    rfl)⟩
end
section
variable {P : Program} {w : World} {K : PySem.W.Frag} {mg : Str → Option Value} {base : Heap}
theorem ok_isClass {f : Addr} {fd : FuncData} (F : FnP K "is_class_name" sIsClassName f fd) (B : Bt mg) (c1 : Cl P w K mg base L2.CX0 2 "is_name" ["thing"] (spName K isNameL)) (g60 : ∃ t, mg "LONGEST_CLASS_NAME" = some (.int 60 t)) :
    FnOk P w K mg base L2.CX0 3 f fd ["thing"] (spName K isClassL) := by
  obtain ⟨t60, g60⟩ := g60
  refine F.ok scIsClassName (fun vs H Q E h => ?_) (fun cdv A outer s H vs Q E hr h => ?_)
  · obtain ⟨x, b, rfl, _⟩ := h
    rfl
  · obtain ⟨x, b, rfl, hx, q⟩ := h
    refine ⟨_, pss_cons (ps_if (PW.pt (pw_or (pt_not (pt_val (pe_callB call_isi (by rfl) B.isi (by decide +kernel) (pa_cons (pv 0) (pa_cons (pe_bltn (v := .ty "str") (by rfl) B.str (by decide +kernel) rfl) pa_nil)))))
        (pw_or1 (pt_cmpR op_gt (pe_callB call_len_str (by rfl) B.len PySem.boot_len (pa_cons (pv 0) pa_nil)) (pe_glob (v := .int 60) (by rfl) g60 ⟨_, rfl⟩) (nomark _)))))
        (pss_one (ps_ret pe_bl)) pss_nil)
      (pss_one (ps_ret (pe_callB (cr_all rfl) (by rfl) B.all (by decide +kernel) (pa_cons (pe_lc (own := [("part", 1)]) (g := gName 1) (tt := tYes) rfl scIsClassName.nd (pi_list (pe_split (pv 0) pe_str)) (blkOk_by (N := ["thing", "part"]) (sc := L2.defScope sIsClassName) (by decide +kernel)) (fun _ _ _ _ _ => pg_name (i := 1) scIsClassName.nd rfl (Or.inl rfl)) (fun _ _ _ _ _ => pts_nil)
        (fun _ _ _ _ _ => pe_cl c1 hr (by decide) (by rfl) (pa_cons (pv 1) pa_nil))) pa_nil)))), ?_⟩
    rcases hx with ⟨l, rfl, hl, rfl⟩ | ⟨hn, rfl⟩
    · refine q_when (b := !decide (l.length ≤ 60)) ?_ (fun e H1 x1 => ?_) (fun e H1 x1 => ?_)
      · refine et_is (et_or (et_not (et_B (ev_isStr (ev_var rfl)))) fun _ => et_test (b := !decide (l.length ≤ 60)) (ev_op (ev_lenS (ev_var rfl) (by omega)) ev_c (rv_is rv_I0 ?_))) ?_
        · refine congrArg V.bl ?_
          rw [← decide_not]
          exact decide_eq_decide.mpr (by omega)
        · rfl
      · refine s_ret (v := .bl (isClassL l)) (ev_is ev_c ?_) (fun H2 x2 => q H2 (x1.trans x2))
        unfold isClassL
        rw [Bool.not_eq_true'] at e
        rw [e]; rfl
      · rw [Bool.not_eq_false'] at e
        have el : l.length ≤ 60 := of_decide_eq_true e
        refine s_ret (v := .bl (isClassL l)) (ev_is (ev_all (bs := (TL.spl [47] 0 [] l).map isNameL) ?_) ?_) (fun H2 x2 => q H2 (x1.trans x2))
        · rw [← map_bl, ← given_all (TL.spl [47] 0 [] l) (fun p => V.bl (isNameL p)) (fun i => .bl (isNameL ((TL.spl [47] 0 [] l).getD i []))) (fun i c h => by rw [getD_of h])]
          have e2 := el_lcNL (K := K) (σ := start ["thing", "part"] [V.str (S l)]) (H := H1) (te := tCall (spName K isNameL) [] L2.E0 (tCons (tVar 1) tNil)) (t := tYes) (j := 1) (vs := [1]) (fun _ => true) (fun i => .bl (isNameL ((TL.spl [47] 0 [] l).getD i []))) (el_split (ta := tVar 0) (z := "/") (c := 47) (by decide +kernel) (by decide) (ev_var rfl) (by omega))
            (by rw [List.length_map]; have := spl_num 47 l []; omega) (fun _ => rfl) (fun i c H2 _ hc => fun H3 e3 Q q => q H3 (Ex.refl H3)) (fun i c H2 x2 hc _ => by
              rw [List.getElem?_map] at hc
              cases hp : (TL.spl [47] 0 [] l)[i]? with
              | none => rw [hp] at hc; cases hc
              | some p =>
                rw [hp] at hc
                cases hc
                rw [getD_of hp]
                exact ev_call (ea_cons (ev_var rfl) ea_nil) (fun H3 e3 Q q E => ⟨_, _, rfl, .inl ⟨p, rfl, by have := spl_len 47 l [] p (List.mem_of_getElem? hp); simp at this; omega, rfl⟩, q⟩))
          rw [List.length_map] at e2
          exact e2
        · unfold isClassL
          rw [e, all_map]; rfl
    · refine q_when (b := true) ?_ (fun e H1 x1 => ?_) (fun e H1 x1 => by cases e)
      · exact et_is (et_or (b := false) (et_not (et_B (ev_noStr (ev_var rfl) hn))) fun e => by cases e) rfl
      · exact s_ret ev_c (fun H2 x2 => q H2 (x1.trans x2))
end
end N8

set_option autoImplicit false
namespace N8
open PySem PySem.Spec PyProof.Rows L2 Evl
open SX (S)
/-! ### parts of texts -/
def sub (l : List Nat) (i j : Nat) : List Nat := (l.drop i).take (j - i)
theorem cut_core (l : List Nat) (i j : Nat) : (l.drop (min i l.length)).take (min j l.length - min i l.length) = sub l i j := by
  unfold sub
  refine List.ext_getElem? fun k => ?_
  rw [List.getElem?_take, List.getElem?_take, List.getElem?_drop, List.getElem?_drop]
  by_cases hi : i ≤ l.length
  · rw [Nat.min_eq_left hi]
    by_cases hj : j ≤ l.length
    · rw [Nat.min_eq_left hj]
    · rw [Nat.min_eq_right (by omega)]
      by_cases hk : i + k < l.length
      · rw [if_pos (by omega), if_pos (by omega)]
      · rw [List.getElem?_eq_none (l := l) (i := i + k) (by omega)]
        simp
  · rw [show min i l.length = l.length by omega]
    rw [if_neg (by omega), List.getElem?_eq_none (l := l) (i := i + k) (by omega)]
    simp
theorem cut_nat (l : List Nat) (i j : Nat) : cutS (S l) (some (i : Int)) (some (j : Int)) = S (sub l i j) := by
  unfold cutS
  rw [SX.S_len, HT.sIx_nat, HT.sIx_nat]
  show (⟨((l.drop (min i l.length)).take (min j l.length - min i l.length)).toArray⟩ : Str) = _
  rw [cut_core]
theorem cut_to (l : List Nat) (j : Nat) : cutS (S l) none (some (j : Int)) = S (l.take j) := by
  unfold cutS
  rw [SX.S_len, HT.sIx_nat, HT.sIx_none]
  show (⟨((l.drop 0).take (min j l.length - 0)).toArray⟩ : Str) = _
  have e : (l.drop 0).take (min j l.length - 0) = l.take j := by
    rw [List.drop_zero, Nat.sub_zero]
    by_cases hj : j ≤ l.length
    · rw [Nat.min_eq_left hj]
    · rw [Nat.min_eq_right (by omega), List.take_length, List.take_of_length_le (by omega)]
  rw [e]
theorem cut_from (l : List Nat) (i : Nat) : cutS (S l) (some (i : Int)) none = S (l.drop i) := by
  unfold cutS
  rw [SX.S_len, HT.sIx_nat, HT.sIx_none]
  show (⟨((l.drop (min i l.length)).take (l.length - min i l.length)).toArray⟩ : Str) = _
  have e : (l.drop (min i l.length)).take (l.length - min i l.length) = l.drop i := by
    by_cases hi : i ≤ l.length
    · rw [Nat.min_eq_left hi, List.take_of_length_le (by rw [List.length_drop]; omega)]
    · rw [Nat.min_eq_right (by omega), Nat.sub_self, List.take_zero, List.drop_of_length_le (by omega)]
  rw [e]
/-! ### the next ';' -/
def fnd (l : List Nat) (a : Nat) : Option Nat := if Txt.find3 (S l) (S [59]) (a : Int) = -1 then none else some (Txt.find3 (S l) (S [59]) (a : Int)).toNat
def vI : Option Nat → Int
  | none => -1
  | some k => (k : Int)
theorem from_nat (n a : Nat) : PySem.fromIndex n (a : Int) = a := by
  unfold PySem.fromIndex
  rw [if_neg (by omega)]
  omega
theorem cps_getD (l : List Nat) (k : Nat) : (S l).cps.getD k 0 = l.getD k 0 := by
  simp [S]
theorem fnd_val (l : List Nat) (a : Nat) : Txt.find3 (S l) (S [59]) (a : Int) = vI (fnd l a) := by
  unfold fnd
  by_cases h : Txt.find3 (S l) (S [59]) (a : Int) = -1
  · rw [if_pos h, h]; rfl
  · rw [if_neg h]
    have : 0 ≤ Txt.find3 (S l) (S [59]) (a : Int) := find3_nonneg_of_ne (x := S l) (c := 59) h
    show _ = (((Txt.find3 (S l) (S [59]) (a : Int)).toNat : Nat) : Int)
    omega
theorem fnd_none {l : List Nat} {a : Nat} (h : fnd l a = none) : ∀ v, a ≤ v → v < l.length → l.getD v 0 ≠ 59 := by
  rcases StrLaws.find3_spec (S l) 59 (a : Int) with ⟨_, hn⟩ | ⟨k, hk, _⟩
  · intro v h1 h2
    have := hn v (by rw [from_nat]; exact h1) (by rw [SX.S_len]; exact h2)
    rwa [cps_getD] at this
  · have hk' : Txt.find3 (S l) (S [59]) (a : Int) = (k : Int) := hk
    unfold fnd at h
    rw [hk', if_neg (by omega)] at h
    cases h
theorem fnd_some {l : List Nat} {a k : Nat} (h : fnd l a = some k) : a ≤ k ∧ k < l.length ∧ l.getD k 0 = 59 ∧ ∀ v, a ≤ v → v < k → l.getD v 0 ≠ 59 := by
  rcases StrLaws.find3_spec (S l) 59 (a : Int) with ⟨hk, hn⟩ | ⟨j, hk, h1, h2, h3, h4⟩
  · have hk' : Txt.find3 (S l) (S [59]) (a : Int) = -1 := hk
    unfold fnd at h
    rw [hk', if_pos rfl] at h
    cases h
  · have hk' : Txt.find3 (S l) (S [59]) (a : Int) = (j : Int) := hk
    unfold fnd at h
    rw [hk', if_neg (by omega)] at h
    have e : j = k := by
      have := Option.some.inj h
      omega
    subst e
    rw [from_nat] at h1 h4
    rw [SX.S_len] at h2
    rw [cps_getD] at h3
    exact ⟨h1, h2, h3, fun v a b => by have := h4 v a b; rwa [cps_getD] at this⟩
theorem fnd_is {l : List Nat} {a k : Nat} (h1 : a ≤ k) (h2 : k < l.length) (h3 : l.getD k 0 = 59) (h4 : ∀ v, a ≤ v → v < k → l.getD v 0 ≠ 59) : fnd l a = some k := by
  cases e : fnd l a with
  | none => exact absurd h3 (fnd_none e k h1 h2)
  | some j =>
    obtain ⟨a1, a2, a3, a4⟩ := fnd_some e
    rcases Nat.lt_trichotomy j k with c | c | c
    · exact absurd a3 (h4 j a1 c)
    · rw [c]
    · exact absurd h3 (a4 k h1 c)
/-! ### where a field's descriptor ends -/
/-- how many "[" stand in front -/
def nb : List Nat → Nat
  | [] => 0
  | c :: r => if c = 91 then nb r + 1 else 0
theorem nb_le : ∀ l, nb l ≤ l.length
  | [] => Nat.le_refl _
  | c :: r => by
    show (if c = 91 then nb r + 1 else 0) ≤ r.length + 1
    have := nb_le r
    split <;> omega
theorem nb_at : ∀ (l : List Nat) (i : Nat), i < nb l → l[i]? = some 91
  | [], i, h => by cases h
  | c :: r, i, h => by
    have h' : i < (if c = 91 then nb r + 1 else 0) := h
    by_cases e : c = 91
    · rw [if_pos e] at h'
      cases i with
      | zero => rw [e]; rfl
      | succ i => exact nb_at r i (by omega)
    · rw [if_neg e] at h'
      cases h'
theorem nb_end : ∀ (l : List Nat), l[nb l]? ≠ some 91
  | [] => by simp [nb]
  | c :: r => by
    show (c :: r)[(if c = 91 then nb r + 1 else 0)]? ≠ some 91
    by_cases e : c = 91
    · rw [if_pos e]
      exact nb_end r
    · rw [if_neg e]
      intro h
      exact e (Option.some.inj h)
def letters : List Nat := [90, 66, 83, 67, 73, 74]
def fend (l : List Nat) (b : Nat) : Option Nat :=
  let a := b + nb (l.drop b)
  if a = l.length ∨ nb (l.drop b) > 5 then none
  else if letters.any (fun x => decide (l.getD a 0 = x)) = true then some (a + 1)
  else match fnd l a with
    | none => none
    | some k => if l.getD a 0 = 76 ∧ isClassL (sub l (a + 1) k) = true then some (k + 1) else none
def vOpt : Option Nat → V
  | none => .non
  | some k => .int (k : Int)
end N8

set_option autoImplicit false
namespace N8
open PySem PySem.Spec PyProof.Rows L2 Evl
open SX (S)
section
variable {K : PySem.W.Frag} {σ : L2.St} {H H' : Hp} {ta tb tc te : TE} {tl th : TO} {t u : TT} {x y z v : V}
theorem ev_slS {l : List Nat} {lo hi : Option Int} {r : List Nat} (h : Ev te σ H (.str (S l))) (h1 : EvO tl σ H lo) (h2 : EvO th σ H hi) (hl : l.length ≤ 40000) (er : cutS (S l) lo hi = S r) : Ev (tSl rSlS te tl th) σ H (.str (S r)) := fun H1 e Q q =>
  h H1 e _ fun H2 e2 => h1 H2 (e.trans e2) _ fun H3 e3 => h2 H3 ((e.trans e2).trans e3) _ fun H4 e4 => ⟨S l, rfl, by rw [SX.S_len]; exact sz_of (by omega), by rw [er]; exact q H4 ((e2.trans e3).trans e4)⟩
abbrev rFind3 : V → List V → Hp → VK → Prop := fun x xs H Q => ∃ (a b : Str) (i : Int), x = .str a ∧ xs = [.str b, .int i] ∧ Q (.int (Txt.find3 a b i)) H
theorem ev_find {l : List Nat} {a : Nat} {z : Str} (ez : z = S [59]) (h : Ev ta σ H (.str (S l))) (hb : Ev tb σ H (.int (a : Int))) : Ev (tBM K "str" rFind3 ta (tCons (tC (.str z)) (tCons tb tNil))) σ H (.int (vI (fnd l a))) := fun H1 e Q q =>
  h H1 e _ fun H2 e2 => ⟨rfl, hb H2 (e.trans e2) _ fun H3 e3 => ⟨S l, z, (a : Int), rfl, rfl, by subst ez; rw [fnd_val]; exact q H3 (e2.trans e3)⟩⟩
theorem ev_at {l : List Nat} {a c : Nat} (h : Ev ta σ H (.str (S l))) (hb : Ev tb σ H (.int (a : Int))) (hl : l.length ≤ 40000) (hc : l[a]? = some c) : Ev (tOp rIxS ta tb) σ H (.str (S [c])) :=
  ev_op h hb (rv_ixS (by rw [SX.S_len]; omega) (atI_nat hc))
theorem rv_eqS {a b : List Nat} {z1 z2 : Str} (e1 : z1 = S a) (e2 : z2 = S b) : RV rEq (.str z1) (.str z2) H (.bl (decide (a = b))) := by
  subst e1 e2
  refine rv_is (rv_eq rfl) (bl_iff ⟨fun e => ?_, fun e => by rw [e]⟩)
  exact SX.S_inj (V.str.inj e)
theorem rv_neS {a b : List Nat} {z1 z2 : Str} (e1 : z1 = S a) (e2 : z2 = S b) : RV rNe (.str z1) (.str z2) H (.bl (!decide (a = b))) := by
  subst e1 e2
  refine rv_is (rv_ne rfl) (congrArg V.bl (congrArg not (decide_eq_decide.mpr ⟨fun e => ?_, fun e => by rw [e]⟩)))
  exact SX.S_inj (V.str.inj e)
theorem rv_eqI {a b : Int} : RV rEq (.int a) (.int b) H (.bl (decide (a = b))) := rv_is (rv_eq rfl) (bl_iff ⟨fun e => V.int.inj e, fun e => by rw [e]⟩)
theorem rv_neI {a b : Int} : RV rNe (.int a) (.int b) H (.bl (!decide (a = b))) := rv_is (rv_ne rfl) (congrArg V.bl (congrArg not (decide_eq_decide.mpr ⟨fun e => V.int.inj e, fun e => by rw [e]⟩)))
theorem or_iff {p q : Prop} [Decidable p] [Decidable q] {b : Bool} (h : b = true ↔ (p ∨ q)) : (decide p || decide q) = b := by
  by_cases hp : p
  · rw [decide_eq_true hp, Bool.true_or]
    exact (h.mpr (.inl hp)).symm
  · rw [decide_eq_false hp, Bool.false_or]
    by_cases hq : q
    · rw [decide_eq_true hq]
      exact (h.mpr (.inr hq)).symm
    · rw [decide_eq_false hq]
      cases hb : b with
      | false => rfl
      | true => rcases h.mp hb with c | c <;> contradiction
end
/-- the tuple LETTERS, at a -/
def Letters (K : PySem.W.Frag) (mg : Str → Option Value) : Prop := ∃ a, mg "LETTERS" = some (.ref a) ∧ ∀ H, SqT K H a (letters.map fun c => V.str (S [c]))
section
variable {P : Program} {w : World} {K : PySem.W.Frag} {mg : Str → Option Value} {base : Heap}
def spFieldEnd : Sp := fun vs H Q _ => ∃ (l : List Nat) (b : Nat), vs = [.str (S l), .int (b : Int)] ∧ l.length ≤ 20000 ∧ b ≤ l.length ∧ RetV (vOpt (fend l b)) H Q
theorem ok_fieldEnd {f : Addr} {fd : FuncData} (F : FnP K "_field_end" sFieldEnd f fd) (B : Bt mg) (c_is_class_name : Cl P w K mg base L2.CX0 3 "is_class_name" ["thing"] (spName K isClassL)) (g5 : ∃ t, mg "MOST_BRACKETS" = some (.int 5 t)) (gL : Letters K mg) :
    FnOk P w K mg base L2.CX0 4 f fd ["text", "begin"] spFieldEnd := by
  obtain ⟨t5, g_MOST_BRACKETS⟩ := g5
  obtain ⟨aL, g_LETTERS, hL⟩ := gL
  refine F.ok scFieldEnd (fun vs H Q E h => ?_) (fun cdv A outer s H vs Q E hr h => ?_)
  · obtain ⟨l, b, rfl, _⟩ := h
    rfl
  · obtain ⟨l, b, rfl, hl, hb, q⟩ := h
    refine ⟨_, PSs.nox (pss_cons (ps_set (i := 2) scFieldEnd.nd rfl (.inl rfl) (pv 1))
      (pss_cons (ps_while PassesOwn.never (PW.pt (pw_and (pt_cmpR op_lt (pv 2) (pe_callB call_len_str (by rfl) B.len PySem.boot_len (pa_cons (pv 0) pa_nil)) (nomark _)) (pw_and1 (pt_cmpR op_eq (pe_ix ix_str (pv 0) (pv 2) (fun _ _ => rfl)) pe_str (nomark _))))) (pss_one (ps_aug (i := 2) scFieldEnd.nd rfl (.inl rfl) pe_int ip_add)))
      (pss_cons (ps_if (PW.pt (pw_or (pt_cmpR op_eq (pv 2) (pe_callB call_len_str (by rfl) B.len PySem.boot_len (pa_cons (pv 0) pa_nil)) (nomark _)) (pw_or1 (pt_cmpR op_gt (pe_op op_sub (pv 2) (pv 1)) (pe_glob (v := .int 5) (by rfl) g_MOST_BRACKETS ⟨_, rfl⟩) (nomark _))))) (pss_one (ps_ret pe_non)) pss_nil)
      (pss_cons (ps_if (pt_cmpR op_in_seq (pe_ix ix_str (pv 0) (pv 2) (fun _ _ => rfl)) (pe_glob (v := .ref aL) (by rfl) g_LETTERS rfl) rfl) (pss_one (ps_ret (pe_op op_add (pv 2) pe_int))) pss_nil)
      (pss_cons (ps_set (i := 3) scFieldEnd.nd rfl (.inl rfl) (pe_bm PySem.F.plainAttrs_str PySem.F.slot_str_find PySem.F.type_str_find mt_find3 (pv 0) (pa_cons pe_str (pa_cons (pv 2) pa_nil))))
      (pss_cons (ps_if (PW.pt (pw_or (pt_cmpR op_ne (pe_ix ix_str (pv 0) (pv 2) (fun _ _ => rfl)) pe_str (nomark _)) (pw_or (pt_cmpR op_eq (pv 3) (pe_un un_neg pe_int) (nomark _)) (pw_or1 (pt_not (pt_val (pe_cl c_is_class_name hr (by decide) (by rfl) (pa_cons (pe_slice sl_str (pv 0) (po_some (pe_op op_add (pv 2) pe_int)) (po_some (pv 3))) pa_nil)))))))) (pss_one (ps_ret pe_non)) pss_nil)
      (pss_one (ps_ret (pe_op op_add (pv 3) pe_int))))))))), ?_⟩
    refine q_asg (ev_var rfl) fun H1 x1 => ?_
    have hnb := nb_le (l.drop b)
    rw [List.length_drop] at hnb
    refine q_while (fun m σ' H' => ∃ i : Nat, m + i = nb (l.drop b) ∧ Ex H H' ∧ σ' = [some (.str (S l)), some (.int (b : Int)), some (.int ((b + i : Nat) : Int)), none]) (nb (l.drop b)) ⟨0, by omega, x1, rfl⟩ (fun m σ' H' hW => ?_)
    obtain ⟨i, em, x2, rfl⟩ := hW
    refine ⟨decide (0 < m), ?_, fun em' H2 x3 => ?_, fun em' H2 x3 => ?_⟩
    · by_cases hlt : b + i < l.length
      · obtain ⟨c, hc⟩ : ∃ c, l[b + i]? = some c := ⟨_, List.getElem?_eq_getElem hlt⟩
        refine et_is (et_and (a := true) (b := decide ([c] = [91])) (et_test (ev_op (ev_var rfl) (ev_lenS (ev_var rfl) (by omega)) (rv_is rv_I0 ?_))) fun _ => et_test (ev_op (ev_at (ev_var rfl) (ev_var rfl) (by omega) hc) ev_c (rv_eqS rfl (by decide +kernel)))) ?_
        · exact congrArg V.bl (decide_eq_true (by omega))
        · rw [Bool.true_and]
          have hd : (l.drop b)[i]? = some c := by rw [List.getElem?_drop]; exact hc
          refine decide_eq_decide.mpr ⟨fun e => ?_, fun e => ?_⟩
          · have e2 : c = 91 := List.cons.inj e |>.1
            subst e2
            by_cases hi : i = nb (l.drop b)
            · exact absurd hd (by rw [hi]; exact nb_end _)
            · omega
          · have := nb_at (l.drop b) i (by omega)
            rw [hd] at this
            rw [Option.some.inj this]
      · refine et_is (et_and (a := false) (b := false) (et_test (ev_op (ev_var rfl) (ev_lenS (ev_var rfl) (by omega)) (rv_is rv_I0 ?_))) fun e => by cases e) ?_
        · exact congrArg V.bl (decide_eq_false (by omega))
        · rw [decide_eq_false (by omega)]; rfl
    · have hm := of_decide_eq_true em'
      refine ⟨fun σ2 H3 => ∃ i : Nat, (m - 1) + i = nb (l.drop b) ∧ Ex H H3 ∧ σ2 = [some (.str (S l)), some (.int (b : Int)), some (.int ((b + i : Nat) : Int)), none], fun σ2 H3 h => ⟨m - 1, by omega, h⟩, ?_⟩
      refine s_aug (f := fun i j => i + j) (a := ((b + i : Nat) : Int)) (b := 1) rfl ev_c fun H3 x4 => ⟨i + 1, by omega, (x2.trans x3).trans x4, ?_⟩
      show [some (V.str (S l)), some (.int (b : Int)), some (.int (((b + i : Nat) : Int) + 1)), none] = _
      rw [show ((b + i : Nat) : Int) + 1 = ((b + (i + 1) : Nat) : Int) by omega]
    · have hm := of_decide_eq_false em'
      have ei : i = nb (l.drop b) := by omega
      have q2 : RetV (vOpt (fend l b)) H2 Q := fun H3 e3 => q H3 ((x2.trans x3).trans e3)
      clear q
      unfold fend at q2
      rw [← ei] at q2
      refine q_when (b := decide (b + i = l.length) || decide (i > 5)) (et_or (et_test (ev_op (ev_var rfl) (ev_lenS (ev_var rfl) (by omega)) (rv_is rv_eqI ?_))) fun _ => et_test (ev_op (ev_op (ev_var rfl) (ev_var rfl) rv_I0) ev_c (rv_is rv_I0 ?_))) (fun e H3 x4 => ?_) (fun e H3 x4 => ?_)
      · exact bl_iff (by omega)
      · exact bl_iff (by omega)
      · rw [if_pos (by simpa using e)] at q2
        exact s_ret ev_c fun H4 x5 => q2 H4 (x4.trans x5)
      · have e2 : ¬ (b + i = l.length ∨ i > 5) := by simpa using e
        rw [if_neg e2] at q2
        obtain ⟨c, hc⟩ : ∃ c, l[b + i]? = some c := ⟨_, List.getElem?_eq_getElem (by omega)⟩
        rw [getD_of hc] at q2
        have hat : ∀ H5, Ev (tOp rIxS (tVar 0) (tVar 2)) [some (V.str (S l)), some (.int (b : Int)), some (.int ((b + i : Nat) : Int)), none] H5 (.str (S [c])) := fun H5 => ev_at (ev_var rfl) (ev_var rfl) (by omega) hc
        refine q_when (b := letters.any fun x => decide (c = x)) (et_test (ev_is (ev_op (hat H3) ev_c (rv_inT (hL _) rfl (by decide +kernel))) ?_)) (fun e H4 x5 => ?_) (fun e H4 x5 => ?_)
        · exact congrArg V.bl (inV_sign (zs := letters))
        · rw [if_pos e] at q2
          refine s_ret (ev_op (ev_var rfl) ev_c rv_I0) fun H5 x6 => ?_
          have := q2 H5 ((x4.trans x5).trans x6)
          exact this
        · rw [if_neg (by rw [e]; decide)] at q2
          refine q_asg (ev_find (by decide +kernel) (ev_var rfl) (ev_var rfl)) fun H5 x6 => ?_
          have hat2 : ∀ v H5, Ev (tOp rIxS (tVar 0) (tVar 2)) [some (V.str (S l)), some (.int (b : Int)), some (.int ((b + i : Nat) : Int)), v] H5 (.str (S [c])) := fun v H5 => ev_at (ev_var rfl) (ev_var rfl) (by omega) hc
          cases ek : fnd l (b + i) with
          | none =>
            rw [ek] at q2
            refine q_when (b := true) (et_is (et_or (a := !decide ([c] = [76])) (b := true) (et_test (ev_op (hat2 _ H5) ev_c (rv_neS rfl (by decide +kernel)))) fun _ => et_is (et_or (a := true) (b := false) (et_test (ev_op (ev_var rfl) (ev_un ev_c ru_neg) (rv_is rv_eqI ?_))) fun e => by cases e) rfl) (Bool.or_true _)) (fun e H6 x7 => ?_) (fun e => by cases e)
            · exact congrArg V.bl (decide_eq_true rfl)
            · exact s_ret ev_c fun H7 x8 => q2 H7 ((((x4.trans x5).trans x6).trans x7).trans x8)
          | some k =>
            obtain ⟨k1, k2, k3, k4⟩ := fnd_some ek
            rw [ek] at q2
            by_cases hc76 : c = 76
            · subst hc76
              refine q_when (b := !isClassL (sub l (b + i + 1) k)) (et_is (et_or (a := false) (b := !isClassL (sub l (b + i + 1) k)) (et_test (ev_op (hat2 _ H5) ev_c (rv_is (rv_neS (b := [76]) rfl (by decide +kernel)) ?_))) fun _ => et_is (et_or (a := false) (b := !isClassL (sub l (b + i + 1) k)) (et_test (ev_op (ev_var rfl) (ev_un ev_c ru_neg) (rv_is rv_eqI ?_))) fun _ => et_not (et_B (ev_call (ea_cons (ev_slS (ev_var rfl) (eo_some (ev_op (ev_var rfl) ev_c rv_I0)) (eo_some (ev_var rfl)) (by omega) (r := sub l (b + i + 1) k) ?_) ea_nil) ?_))) (Bool.false_or _)) (Bool.false_or _)) (fun e H6 x7 => ?_) (fun e H6 x7 => ?_)
              · rfl
              · exact congrArg V.bl (decide_eq_false (by show ¬ ((k : Int) = -1); omega))
              · exact cut_nat l (b + i + 1) k
              · intro H6 x7 Q' q' E'
                refine ⟨_, _, rfl, .inl ⟨_, rfl, ?_, rfl⟩, q'⟩
                unfold sub
                rw [List.length_take, List.length_drop]
                omega
              · have hcl : isClassL (sub l (b + i + 1) k) = false := by simpa using e
                have q3 := q2
                simp only [hcl] at q3
                refine s_ret ev_c fun H7 x8 => ?_
                have := q3 H7 ((((x4.trans x5).trans x6).trans x7).trans x8)
                simpa [vOpt] using this
              · have hcl : isClassL (sub l (b + i + 1) k) = true := by simpa using e
                have q3 := q2
                simp only [hcl] at q3
                refine s_ret (ev_op (ev_var rfl) ev_c rv_I0) fun H7 x8 => ?_
                have := q3 H7 ((((x4.trans x5).trans x6).trans x7).trans x8)
                simpa [vOpt, vI] using this
            · refine q_when (b := true) (et_is (et_or (a := true) (b := false) (et_test (ev_op (hat2 _ H5) ev_c (rv_is (rv_neS (b := [76]) rfl (by decide +kernel)) ?_))) fun e => by cases e) rfl) (fun e H6 x7 => ?_) (fun e => by cases e)
              · exact congrArg V.bl (congrArg not (decide_eq_false fun e => hc76 (List.cons.inj e).1))
              · refine s_ret ev_c fun H7 x8 => ?_
                have := q2 H7 ((((x4.trans x5).trans x6).trans x7).trans x8)
                simpa [vOpt, hc76] using this
end
end N8

set_option autoImplicit false
namespace N8
open PySem PySem.Spec PyProof.Rows L2 Evl
open SX (S)
/-! ### the parts of a method's descriptor -/
theorem fend_lt {l : List Nat} {b e : Nat} (hb : b ≤ l.length) (h : fend l b = some e) : b < e ∧ e ≤ l.length := by
  have hn := nb_le (l.drop b)
  rw [List.length_drop] at hn
  unfold fend at h
  by_cases c1 : b + nb (l.drop b) = l.length ∨ nb (l.drop b) > 5
  · rw [if_pos c1] at h
    cases h
  · rw [if_neg c1] at h
    by_cases c2 : letters.any (fun x => decide (l.getD (b + nb (l.drop b)) 0 = x)) = true
    · rw [if_pos c2] at h
      have := Option.some.inj h
      omega
    · rw [if_neg c2] at h
      cases ek : fnd l (b + nb (l.drop b)) with
      | none =>
        rw [ek] at h
        cases h
      | some k =>
        rw [ek] at h
        obtain ⟨k1, k2, _, _⟩ := fnd_some ek
        have h' : (if l.getD (b + nb (l.drop b)) 0 = 76 ∧ isClassL (sub l (b + nb (l.drop b) + 1) k) = true then some (k + 1) else none) = some e := h
        split at h'
        · have := Option.some.inj h'
          omega
        · cases h'
def isFieldL (l : List Nat) : Bool := decide (fend l 0 = some l.length)
def placesL (ds : List (List Nat)) : Int := (ds.map fun d => if d = [74] then (2 : Int) else 1).sum
def loopP (l : List Nat) : Nat → Nat → List (List Nat) → Option (List (List Nat) × Nat)
  | 0, _, _ => none
  | n + 1, at_, acc => if at_ < l.length ∧ l.getD at_ 0 ≠ 41 then (match fend l at_ with
    | none => none
    | some e => loopP l n e (acc ++ [sub l at_ e])) else some (acc, at_)
def finL (l : List Nat) : Option (List (List Nat) × Nat) → Option (List (List Nat))
  | none => none
  | some (acc, at_) => if placesL acc > 254 ∨ (l.drop (at_ + 1) ≠ [86] ∧ isFieldL (l.drop (at_ + 1)) = false) then none else some (acc ++ [l.drop (at_ + 1)])
theorem finL_no {l : List Nat} {acc : List (List Nat)} {a : Nat} (h : placesL acc > 254 ∨ (l.drop (a + 1) ≠ [86] ∧ isFieldL (l.drop (a + 1)) = false)) : finL l (some (acc, a)) = none := if_pos h
theorem finL_ok {l : List Nat} {acc : List (List Nat)} {a : Nat} (h : ¬ (placesL acc > 254 ∨ (l.drop (a + 1) ≠ [86] ∧ isFieldL (l.drop (a + 1)) = false))) : finL l (some (acc, a)) = some (acc ++ [l.drop (a + 1)]) := if_neg h
def partsL (l : List Nat) : Option (List (List Nat)) := if l.head? = some 40 then finL l (loopP l (l.length + 1) 1 []) else none
abbrev vs (l : List Nat) : V := .str (S l)
section
variable {K : PySem.W.Frag} {σ : L2.St} {H H' : Hp} {ta tb tc te : TE} {tl th : TO} {t u : TT} {x y z v : V}
theorem rv_eqO {o : Option Nat} {n : Nat} : RV rEq (vOpt o) (.int (n : Int)) H (.bl (decide (o = some n))) := by
  cases o with
  | none => exact rv_is (rv_eq rfl) (congrArg V.bl (by rw [decide_eq_false (by intro e; cases e), decide_eq_false (by intro e; cases e)]))
  | some k => exact rv_is (rv_eq rfl) (bl_iff ⟨fun e => by have := V.int.inj e; congr 1; omega, fun e => by rw [Option.some.inj e]; rfl⟩)
abbrev rIsNon : R2 := fun x y H Q => y = .non ∧ Q (.bl (decide (x = .non))) H
theorem rv_isO {o : Option Nat} : RV rIsNon (vOpt o) .non H (.bl (decide (o = none))) := fun H1 _ Q q => ⟨rfl, by
  have e : decide (vOpt o = V.non) = decide (o = none) := by
    cases o with
    | none => rfl
    | some k => rw [decide_eq_false (by intro e; cases e), decide_eq_false (by intro e; cases e)]
  rw [e]
  exact q H1 (Ex.refl H1)⟩
abbrev rStarts : V → List V → Hp → VK → Prop := fun x xs H Q => ∃ a b, x = .str a ∧ xs = [.str b] ∧ Q (.bl (Txt.startswith a b)) H
theorem starts1 (l : List Nat) (c : Nat) : Txt.startswith (S l) (S [c]) = decide (l.head? = some c) := by
  unfold Txt.startswith Builtin.Str.subAt
  rw [SX.S_len, SX.S_len]
  cases l with
  | nil => simp
  | cons d r =>
    simp [S]
    by_cases e : d = c
    · subst e; simp
    · simp [e]
theorem ev_starts {l : List Nat} {c : Nat} {z : Str} (ez : z = S [c]) (h : Ev ta σ H (.str (S l))) : Ev (tM1 rStarts ta (tC (.str z))) σ H (.bl (decide (l.head? = some c))) := fun H1 e Q q =>
  h H1 e _ fun H2 e2 => ⟨⟨_, rfl⟩, S l, z, rfl, rfl, by subst ez; rw [starts1]; exact q H2 e2⟩
end
section
variable {P : Program} {w : World} {K : PySem.W.Frag} {mg : Str → Option Value} {base : Heap}
theorem ok_isField {f : Addr} {fd : FuncData} (F : FnP K "is_field_descriptor" sIsFieldDescriptor f fd) (B : Bt mg) (c_field_end : Cl P w K mg base L2.CX0 4 "_field_end" ["text", "begin"] spFieldEnd) :
    FnOk P w K mg base L2.CX0 5 f fd ["thing"] (spName K isFieldL) := by
  refine F.ok scIsFieldDescriptor (fun vs H Q E h => ?_) (fun cdv A outer s H vs Q E hr h => ?_)
  · obtain ⟨x, b, rfl, _⟩ := h
    rfl
  · obtain ⟨x, b, rfl, hx, q⟩ := h
    refine ⟨_, PSs.nox (pss_one (ps_ret (pe_and (pe_callB call_isi (by rfl) B.isi (by decide +kernel) (pa_cons (pv 0) (pa_cons (pe_bltn (v := .ty "str") (by rfl) B.str (by decide +kernel) rfl) pa_nil))) (pe_one (pe_cmpR op_eq (pe_cl c_field_end hr (by decide) (by rfl) (pa_cons (pv 0) (pa_cons pe_int pa_nil))) (pe_callB call_len_str (by rfl) B.len PySem.boot_len (pa_cons (pv 0) pa_nil)) (nomark _)))))), ?_⟩
    rcases hx with ⟨l, rfl, hl, rfl⟩ | ⟨hn, rfl⟩
    · refine s_ret (v := .bl (isFieldL l)) (ev_is (ev_andV (a := true) (b := isFieldL l) (ev_isStr (ev_var rfl)) fun _ => ev_op (ev_call (ea_cons (ev_var rfl) (ea_cons ev_c ea_nil)) (fun H1 x1 Q' q' E' => ⟨l, 0, rfl, hl, Nat.zero_le _, q'⟩)) (ev_lenS (ev_var rfl) (by omega)) rv_eqO) rfl) q
    · exact s_ret (ev_is (ev_andV (a := false) (b := false) (ev_noStr (ev_var rfl) hn) fun e => by cases e) rfl) q
def spPlaces (K : PySem.W.Frag) : Sp := fun vs H Q _ => ∃ (a : Addr) (ds : List (List Nat)), vs = [.ref a] ∧ SqL K H a (ds.map N8.vs) ∧ ds.length ≤ 20000 ∧ RetV (.int (placesL ds)) H Q
theorem ok_places {f : Addr} {fd : FuncData} (F : FnP K "places_of" sPlacesOf f fd) (B : Bt mg) : FnOk P w K mg base L2.CX0 1 f fd ["descriptors"] (spPlaces K) := by
  refine F.ok scPlacesOf (fun vs H Q E h => ?_) (fun cdv A outer s H vs Q E hr h => ?_)
  · obtain ⟨a, ds, rfl, _⟩ := h
    rfl
  · obtain ⟨a, ds, rfl, hS, hl, q⟩ := h
    refine ⟨_, PSs.nox (pss_one (ps_ret (pe_callB (cr_sum rfl) (by rfl) B.sum (by decide +kernel) (pa_cons (pe_lc (own := [("descriptor", 1)]) (g := gName 1) (tt := tYes) rfl scPlacesOf.nd (pi_list (pv 0)) (blkOk_by (N := ["descriptors", "descriptor"]) (sc := L2.defScope sPlacesOf) (by decide +kernel)) (fun _ _ _ _ _ => pg_name (i := 1) scPlacesOf.nd rfl (Or.inl rfl)) (fun _ _ _ _ _ => pts_nil) (fun _ _ _ _ _ => (pe_ifExp (pt_cmpR op_eq (pv 1) pe_str (nomark _)) pe_int pe_int))) pa_nil)))), ?_⟩
    refine s_ret (ev_sum (ns := ds.map fun d => if d = [74] then (2 : Int) else 1) ?_) q
    have e2 := el_lcL (K := K) (σ := start ["descriptors", "descriptor"] [V.ref a]) (H := H) (xs := ds.map N8.vs) (t := tYes) (te := tIf (tTest (tOp rEq (tVar 1) (tC (.str "J")))) (tC (.int 2)) (tC (.int 1))) (tl := tVar 0) (j := 1) (vs := [1]) (fun _ => true) (fun i => .int (if ds.getD i [] = [74] then (2 : Int) else 1)) (ev_var rfl) hS
      (by rw [List.length_map]; omega) (fun _ => rfl) (fun i c H2 _ hc => fun H3 e3 Q q => q H3 (Ex.refl H3)) (fun i c H2 x2 hc _ => by
        rw [List.getElem?_map] at hc
        cases hp : ds[i]? with
        | none => rw [hp] at hc; cases hc
        | some p =>
          rw [hp] at hc
          cases hc
          rw [getD_of hp]
          refine ev_if (b := decide (p = [74])) (et_test (ev_op (ev_var rfl) ev_c (rv_eqS rfl (by decide +kernel)))) (fun e => ev_is ev_c ?_) (fun e => ev_is ev_c ?_)
          · rw [if_pos (of_decide_eq_true e)]
          · rw [if_neg (of_decide_eq_false e)])
    rw [List.length_map, given_all ds (fun d => V.int (if d = [74] then (2 : Int) else 1)) _ (fun i c h => by rw [getD_of h])] at e2
    rw [List.map_map]
    exact e2
end
end N8

set_option autoImplicit false
namespace N8
open PySem PySem.Spec PyProof.Rows L2 Evl
open SX (S)
def RetO (o : Option (List V)) (H : Hp) (Q : VK) : Prop := match o with
  | none => RetV .non H Q
  | some xs => RetL xs H Q
def PartsOf (K : PySem.W.Frag) (H : Hp) (x : V) (o : Option (List (List Nat))) : Prop := (∃ l, x = .str (S l) ∧ l.length ≤ 20000 ∧ o = partsL l) ∨ (NoStr K H x ∧ o = none)
def spParts (K : PySem.W.Frag) : Sp := fun vs H Q _ => ∃ (x : V) (o : Option (List (List Nat))), vs = [x] ∧ PartsOf K H x o ∧ RetO (o.map fun ps => ps.map N8.vs) H Q
section
variable {P : Program} {w : World} {K : PySem.W.Frag} {mg : Str → Option Value} {base : Heap}
theorem ok_parts {f : Addr} {fd : FuncData} (F : FnP K "_method_parts" sMethodParts f fd) (B : Bt mg) (c_field_end : Cl P w K mg base L2.CX0 4 "_field_end" ["text", "begin"] spFieldEnd)
    (c_is_field_descriptor : Cl P w K mg base L2.CX0 5 "is_field_descriptor" ["thing"] (spName K isFieldL)) (c_places_of : Cl P w K mg base L2.CX0 1 "places_of" ["descriptors"] (spPlaces K)) (g254 : ∃ t, mg "MOST_PARAMETER_PLACES" = some (.int 254 t)) :
    FnOk P w K mg base L2.CX0 6 f fd ["thing"] (spParts K) := by
  obtain ⟨t254, g_MOST_PARAMETER_PLACES⟩ := g254
  refine F.ok scMethodParts (fun vs H Q E h => ?_) (fun cdv A outer s H vs Q E hr h => ?_)
  · obtain ⟨x, b, rfl, _⟩ := h
    rfl
  · obtain ⟨x, o, rfl, hx, q⟩ := h
    refine ⟨_, PSs.nox (pss_cons (ps_if (PW.pt (pw_or (pt_not (pt_val (pe_callB call_isi (by rfl) B.isi (by decide +kernel) (pa_cons (pv 0) (pa_cons (pe_bltn (v := .ty "str") (by rfl) B.str (by decide +kernel) rfl) pa_nil))))) (pw_or1 (pt_not (pt_val (pe_m1 PySem.F.slot_str_startswith PySem.F.type_str_startswith mt_startswith (pv 0) pe_str)))))) (pss_one (ps_ret pe_non)) pss_nil)
      (pss_cons (ps_set (i := 1) scMethodParts.nd rfl (.inl rfl) (pe_lst pa_nil))
      (pss_cons (ps_set (i := 2) scMethodParts.nd rfl (.inl rfl) pe_int)
      (pss_cons (ps_while PassesOwn.never (PW.pt (pw_and (pt_cmpR op_lt (pv 2) (pe_callB call_len_str (by rfl) B.len PySem.boot_len (pa_cons (pv 0) pa_nil)) (nomark _)) (pw_and1 (pt_cmpR op_ne (pe_ix ix_str (pv 0) (pv 2) (fun _ _ => rfl)) pe_str (nomark _))))) (pss_cons (ps_set (i := 3) scMethodParts.nd rfl (.inl rfl) (pe_cl c_field_end hr (by decide) (by rfl) (pa_cons (pv 0) (pa_cons (pv 2) pa_nil))))
      (pss_cons (ps_if (pt_cmpR op_isN (pv 3) pe_non (nomark _)) (pss_one (ps_ret pe_non)) pss_nil)
      (pss_cons (ps_expr (pe_bm PySem.F.plainAttrs_list PySem.F.slot_list_append PySem.F.type_list_append mt_append (pv 1) (pa_cons (pe_slice sl_str (pv 0) (po_some (pv 2)) (po_some (pv 3))) pa_nil)))
      (pss_one (ps_set (i := 2) scMethodParts.nd rfl (.inl rfl) (pv 3)))))))
      (pss_cons (ps_set (i := 4) scMethodParts.nd rfl (.inl rfl) (pe_slice sl_str (pv 0) (po_some (pe_op op_add (pv 2) pe_int)) po_none))
      (pss_cons (ps_if (PW.pt (pw_or (pt_cmpR op_gt (pe_cl c_places_of hr (by decide) (by rfl) (pa_cons (pv 1) pa_nil)) (pe_glob (v := .int 254) (by rfl) g_MOST_PARAMETER_PLACES ⟨_, rfl⟩) (nomark _)) (pw_or1 (PW.pt (pw_and (pt_cmpR op_ne (pv 4) pe_str (nomark _)) (pw_and1 (pt_not (pt_val (pe_cl c_is_field_descriptor hr (by decide) (by rfl) (pa_cons (pv 4) pa_nil)))))))))) (pss_one (ps_ret pe_non)) pss_nil)
      (pss_cons (ps_expr (pe_bm PySem.F.plainAttrs_list PySem.F.slot_list_append PySem.F.type_list_append mt_append (pv 1) (pa_cons (pv 4) pa_nil)))
      (pss_one (ps_ret (pv 1)))))))))), ?_⟩
    rcases hx with ⟨l, rfl, hl, rfl⟩ | ⟨hn, rfl⟩
    · refine q_when (b := !decide (l.head? = some 40)) (et_is (et_or (a := false) (et_not (et_B (ev_isStr (ev_var rfl)))) fun _ => et_not (et_B (ev_starts (by decide +kernel) (ev_var rfl)))) (Bool.false_or _)) (fun e H1 x1 => ?_) (fun e H1 x1 => ?_)
      · have hh : ¬ l.head? = some 40 := by simpa using e
        have eo : partsL l = none := if_neg hh
        rw [eo] at q
        exact s_ret ev_c fun H2 x2 => q H2 (x1.trans x2)
      · have hh : l.head? = some 40 := by simpa using e
        have l1 : 1 ≤ l.length := by
          cases l with
          | nil => cases hh
          | cons c r => exact Nat.succ_le_succ (Nat.zero_le _)
        refine q_asgL (el_lst ea_nil (by decide)) fun p H2 hp1 x2 h2 => ?_
        have hp : H p = none := fresh_back x1 hp1
        refine q_asg ev_c fun H3 x3 => ?_
        obtain ⟨R, hR⟩ : ∃ R, loopP l (l.length + 1) 1 [] = R := ⟨_, rfl⟩
        have hparts : partsL l = finL l R := by
          unfold partsL
          rw [if_pos hh, hR]
        rw [hparts] at q
        clear hparts
        refine q_while (fun m σ' H' => ∃ (at_ : Nat) (acc : List (List Nat)) (ev : Option V), loopP l m at_ acc = R ∧ at_ ≤ l.length ∧ l.length < at_ + m ∧ Ex H H' ∧ H' p = some (.lst (acc.map N8.vs)) ∧ acc.length ≤ at_ ∧
            σ' = [some (.str (S l)), some (.ref p), some (.int (at_ : Int)), ev, none]) (l.length + 1) ⟨1, [], none, hR, l1, by omega, (x1.trans x2).trans x3, x3 _ _ h2, Nat.zero_le _, rfl⟩ (fun m σ' H' hW => ?_)
        obtain ⟨at_, acc, ev, eR, ha, hm, xE, hp', hacc, rfl⟩ := hW
        obtain ⟨m, rfl⟩ : ∃ m', m = m' + 1 := ⟨m - 1, by omega⟩
        refine ⟨decide (at_ < l.length ∧ l.getD at_ 0 ≠ 41), ?_, fun em' H4 x4 => ?_, fun em' H4 x4 => ?_⟩
        · by_cases hlt : at_ < l.length
          · obtain ⟨c, hc⟩ : ∃ c, l[at_]? = some c := ⟨_, List.getElem?_eq_getElem hlt⟩
            rw [getD_of hc]
            refine et_is (et_and (a := true) (b := !decide ([c] = [41])) (et_test (ev_op (ev_var rfl) (ev_lenS (ev_var rfl) (by omega)) (rv_is rv_I0 ?_))) fun _ => et_test (ev_op (ev_at (ev_var rfl) (ev_var rfl) (by omega) hc) ev_c (rv_neS rfl (by decide +kernel)))) ?_
            · exact congrArg V.bl (decide_eq_true (by omega))
            · rw [Bool.true_and, ← decide_not]
              exact decide_eq_decide.mpr ⟨fun e => ⟨hlt, fun e2 => e (by rw [e2])⟩, fun e e2 => e.2 (List.cons.inj e2).1⟩
          · refine et_is (et_and (a := false) (b := false) (et_test (ev_op (ev_var rfl) (ev_lenS (ev_var rfl) (by omega)) (rv_is rv_I0 ?_))) fun e => by cases e) ?_
            · exact congrArg V.bl (decide_eq_false (by omega))
            · rw [decide_eq_false (fun e => hlt e.1)]; rfl
        · have hc := of_decide_eq_true em'
          have e1 : loopP l (m + 1) at_ acc = (match fend l at_ with
            | none => none
            | some e => loopP l m e (acc ++ [sub l at_ e])) := if_pos hc
          rw [e1] at eR
          clear e1
          refine ⟨fun σ2 H5 => ∃ (at_ : Nat) (acc : List (List Nat)) (ev : Option V), loopP l m at_ acc = R ∧ at_ ≤ l.length ∧ l.length < at_ + m ∧ Ex H H5 ∧ H5 p = some (.lst (acc.map N8.vs)) ∧ acc.length ≤ at_ ∧
            σ2 = [some (.str (S l)), some (.ref p), some (.int (at_ : Int)), ev, none], fun σ2 H5 h => ⟨m, by omega, h⟩, ?_⟩
          refine q_asg (ev_call (z := vOpt (fend l at_)) (ea_cons (ev_var rfl) (ea_cons (ev_var rfl) ea_nil)) (fun H5 x5 Q' q' E' => ⟨l, at_, rfl, hl, ha, q'⟩)) fun H5 x5 => ?_
          refine q_when (b := decide (fend l at_ = none)) (et_test (ev_op (ev_var rfl) ev_c rv_isO)) (fun e H6 x6 => ?_) (fun e H6 x6 => ?_)
          · rw [of_decide_eq_true e] at eR
            rw [← eR] at q
            exact s_ret ev_c fun H7 x7 => q H7 ((((xE.trans x4).trans x5).trans x6).trans x7)
          · cases ek : fend l at_ with
            | none => exact absurd ek (of_decide_eq_false e)
            | some k =>
              rw [ek] at eR
              obtain ⟨k1, k2⟩ := fend_lt ha ek
              refine q_app (l := p) (xs := acc.map N8.vs) (x6 _ _ (x5 _ _ (x4 _ _ hp'))) (ev_var rfl) (ev_slS (lo := some (at_ : Int)) (hi := some (k : Int)) (ev_var rfl) (eo_some (ev_var rfl)) (eo_some (ev_var rfl)) (by omega) (cut_nat l at_ k)) (by rw [List.length_map]; omega) fun H7 x7 => ?_
              refine s_asg (ev_var rfl) fun H8 x8 => ?_
              refine ⟨k, acc ++ [sub l at_ k], some (vOpt (some k)), eR, k2, by omega, ?_, ?_, by rw [List.length_append]; simp; omega, rfl⟩
              · exact (Ex.mut ((((xE.trans x4).trans x5).trans x6).trans x7) hp).trans x8
              · rw [x8 _ _ upd_same, List.map_append]
                rfl
        · have hc := of_decide_eq_false em'
          have e1 : loopP l (m + 1) at_ acc = some (acc, at_) := if_neg hc
          rw [e1] at eR
          rw [← eR] at q
          refine q_asg (ev_slS (lo := some ((at_ + 1 : Nat) : Int)) (hi := none) (r := l.drop (at_ + 1)) (ev_var rfl) (eo_some (ev_op (ev_var rfl) ev_c rv_I0)) eo_none (by omega) (cut_from l (at_ + 1))) fun H5 x5 => ?_
          have hlast : (l.drop (at_ + 1)).length ≤ 20000 := by rw [List.length_drop]; omega
          refine q_when (b := decide (placesL acc > 254 ∨ (l.drop (at_ + 1) ≠ [86] ∧ isFieldL (l.drop (at_ + 1)) = false))) (et_is (et_or (et_test (ev_op (ev_call (z := .int (placesL acc)) (ea_cons (ev_var rfl) ea_nil) (fun H6 x6 Q' q' E' => ⟨p, acc, rfl, sq_of (x6 _ _ (x5 _ _ (x4 _ _ hp'))), by omega, q'⟩)) ev_c rv_I0)) fun _ => et_and (et_test (ev_op (ev_var rfl) ev_c (rv_neS (b := [86]) rfl (by decide +kernel)))) fun _ => et_not (et_B (ev_call (z := .bl (isFieldL (l.drop (at_ + 1)))) (ea_cons (ev_var rfl) ea_nil) (fun H6 x6 Q' q' E' => ⟨_, _, rfl, .inl ⟨_, rfl, hlast, rfl⟩, q'⟩)))) ?_) (fun e H6 x6 => ?_) (fun e H6 x6 => ?_)
          · cases isFieldL (l.drop (at_ + 1)) <;> simp
          · have q2 : RetV .non H Q := by
              have := q
              rw [finL_no (of_decide_eq_true e)] at this
              exact this
            exact s_ret ev_c fun H7 x7 => q2 H7 ((((xE.trans x4).trans x5).trans x6).trans x7)
          · have q2 : RetL ((acc ++ [l.drop (at_ + 1)]).map N8.vs) H Q := by
              have := q
              rw [finL_ok (of_decide_eq_false e)] at this
              exact this
            refine q_app (l := p) (xs := acc.map N8.vs) (x6 _ _ (x5 _ _ (x4 _ _ hp'))) (ev_var rfl) (ev_var rfl) (by rw [List.length_map]; omega) fun H7 x7 => ?_
            refine s_ret (ev_var rfl) fun H8 x8 => q2 p H8 hp ((Ex.mut ((((xE.trans x4).trans x5).trans x6).trans x7) hp).trans x8) ?_
            rw [x8 _ _ upd_same, List.map_append]
            rfl
    · refine q_when (b := true) (et_is (et_or (a := true) (b := false) (et_not (et_B (ev_noStr (ev_var rfl) hn))) fun e => by cases e) rfl) (fun e H1 x1 => ?_) (fun e H1 x1 => by cases e)
      exact s_ret ev_c fun H2 x2 => q H2 (x1.trans x2)
end
end N8

set_option autoImplicit false
namespace N8
open PySem PySem.Spec PyProof.Rows L2 Evl
open SX (S)
section
variable {K : PySem.W.Frag} {σ : L2.St} {H H' : Hp} {te ta tb : TE} {t : TA} {r : R2} {v x : V} {D : Ends} {tz tu : TS} {Q : VK}
theorem q_asgAny {i : Nat} (h : te σ H fun v H1 => tz D (σ.set i (some v)) H1) : tSeq (tAsg te (gName i)) tz D σ H := h
/-- a row at p -/
def RowAt (K : PySem.W.Frag) (H : Hp) (p : Addr) (xs : List V) : Prop := H p = some (.lst xs) ∨ H p = some (.tup xs)
theorem RowAt.ex {p : Addr} {xs : List V} (h : RowAt K H p xs) (e : Ex H H') : RowAt K H' p xs := h.elim (fun h => .inl (e _ _ h)) fun h => .inr (e _ _ h)
theorem ev_isiRow {p : Addr} {xs : List V} (h : Ev te σ H (.ref p)) (hp : RowAt K H p xs) : Ev (tCB (rIsiT K) (tCons te (tCons (tTup (tCons (tC (.ty "list")) (tCons (tC (.ty "tuple")) tNil))) tNil))) σ H (.bl true) := fun H1 e Q q =>
  h H1 e _ fun H2 e2 => ⟨by show 2 ≤ sizeLine; decide, fun T hT => by
    rcases hp with hp | hp
    · exact ⟨.ref p, T, [.ty "list", .ty "tuple"], .type "list", [.type "list", .type "tuple"], true, rfl, upd_same, .cons (.ty "list") (.cons (.ty "tuple") .nil), .base (.lst (((e.trans e2).trans (Ex.new hT)) _ _ hp)), by kernel_rfl, q _ (e2.trans (Ex.new hT))⟩
    · exact ⟨.ref p, T, [.ty "list", .ty "tuple"], .type "tuple", [.type "list", .type "tuple"], true, rfl, upd_same, .cons (.ty "list") (.cons (.ty "tuple") .nil), .base (.tup (((e.trans e2).trans (Ex.new hT)) _ _ hp)), by kernel_rfl, q _ (e2.trans (Ex.new hT))⟩⟩
end
/-- is_row of a row -/
def spRow (K : PySem.W.Frag) : Sp := fun vs H Q _ => ∃ (p : Addr) (xs : List V), vs = [.ref p] ∧ RowAt K H p xs ∧ ∀ H', Ex H H' → Q (.bl true) H'
/-- is_tuple_of of a tuple of so many things -/
def spTupOf (K : PySem.W.Frag) : Sp := fun vs H Q _ => ∃ (p : Addr) (xs : List V), vs = [.ref p, .int (xs.length : Int)] ∧ H p = some (.tup xs) ∧ xs.length ≤ 1000 ∧ ∀ H', Ex H H' → Q (.bl true) H'
/-- a constant: a number, a text, or none -/
inductive IntV : V → Bool → Prop where
  | int (i : Int) : IntV (.int i) true
  | str (z : Str) : IntV (.str z) false
  | non : IntV .non false
def spInt : Sp := fun vs H Q _ => ∃ (x : V) (b : Bool), vs = [x] ∧ IntV x b ∧ ∀ H', Ex H H' → Q (.bl b) H'
/-- is_within of a number, or of what is none -/
def spWithin : Sp := fun vs H Q _ => ∃ (x : V) (lo hi : Int) (b : Bool), vs = [x, .int lo, .int hi] ∧ ((∃ i, x = .int i ∧ b = (decide (lo ≤ i) && decide (i ≤ hi))) ∨ (IntV x false ∧ b = false)) ∧ ∀ H', Ex H H' → Q (.bl b) H'
section
variable {P : Program} {w : World} {K : PySem.W.Frag} {mg : Str → Option Value} {base : Heap}
theorem ok_isInteger {f : Addr} {fd : FuncData} (F : FnP K "is_integer" sIsInteger f fd) (B : Bt mg) : FnOk P w K mg base L2.CX0 1 f fd ["thing"] spInt := by
  refine F.ok scIsInteger (fun vs H Q E h => ?_) (fun cdv A outer s H vs Q E hr h => ?_)
  · obtain ⟨x, b, rfl, _⟩ := h
    rfl
  · obtain ⟨x, b, rfl, hx, q⟩ := h
    refine ⟨_, PSs.nox (pss_one (ps_ret (pe_and (pe_callB call_isi (by rfl) B.isi (by decide +kernel) (pa_cons (pv 0) (pa_cons (pe_bltn (v := .ty "int") (by rfl) B.int (by decide +kernel) rfl) pa_nil))) (pe_one (pe_not (pe_callB call_isi (by rfl) B.isi (by decide +kernel) (pa_cons (pv 0) (pa_cons (pe_bltn (v := .ty "bool") (by rfl) B.bool (by decide +kernel) rfl) pa_nil)))))))), ?_⟩
    cases hx with
    | int i => exact s_ret (ev_is (ev_andV (a := true) (b := true) (ev_isi (ev_var rfl) (.base (.int i)) (by decide +kernel)) fun _ => ev_is (ev_notV (a := false) (ev_isi (b := false) (ev_var rfl) (.base (.int i)) (by decide +kernel))) rfl) rfl) q
    | str z => exact s_ret (ev_is (ev_andV (a := false) (b := false) (ev_isi (ev_var rfl) (.base (.str z)) (by decide +kernel)) fun e => by cases e) rfl) q
    | non => exact s_ret (ev_is (ev_andV (a := false) (b := false) (ev_isi (ev_var rfl) (.base .non) (by decide +kernel)) fun e => by cases e) rfl) q
theorem ok_isRow {f : Addr} {fd : FuncData} (F : FnP K "is_row" sIsRow f fd) (B : Bt mg) : FnOk P w K mg base L2.CX0 1 f fd ["thing"] (spRow K) := by
  refine F.ok scIsRow (fun vs H Q E h => ?_) (fun cdv A outer s H vs Q E hr h => ?_)
  · obtain ⟨p, xs, rfl, _⟩ := h
    rfl
  · obtain ⟨p, xs, rfl, hp, q⟩ := h
    exact ⟨_, PSs.nox (pss_one (ps_ret (pe_callB call_isiT (by rfl) B.isi (by decide +kernel) (pa_cons (pv 0) (pa_cons (pe_tup (pa_cons (pe_bltn (v := .ty "list") (by rfl) B.list (by decide +kernel) rfl) (pa_cons (pe_bltn (v := .ty "tuple") (by rfl) B.tuple (by decide +kernel) rfl) pa_nil))) pa_nil))))), s_ret (ev_isiRow (ev_var rfl) hp) q⟩
end
end N8

set_option autoImplicit true
set_option maxHeartbeats 4000000
/-! len(set(xs)), xs a list of texts that are all different. -/
namespace SD
open PySem PySem.Spec PyProof.Rows L2
section
variable {prog : Program} {w : World} {A : Around} {R : Result → Shared → Prop} {I : Addr} {fp wr : List Addr} {G : Array GenState → Array GenState → Prop} {n : Nat} {P : Nat → Value → Prop} {St : Nat → Shared → Prop}
/-- the set of the first i of xs, so many -/
abbrev Firsts (prog : Program) (w : World) (h : Heap) (S : Addr) (xs : List Str) (i : Nat) : Prop := h.SetOf (PySem.strKind prog w) S (fun y => (xs.take i).any (· == y)) i
theorem firsts_moved {h h' : Heap} {S : Addr} {xs : List Str} {i : Nat} (f : Firsts prog w h S xs i) (k : ∀ o, h.get? S = some o → h'.get? S = some o) : Firsts prog w h' S xs i := by
  obtain ⟨o, es, ep, t, ho, rest⟩ := f
  exact ⟨o, es, ep, t, k _ ho, rest⟩
theorem take_any {xs : List Str} {i : Nat} (hi : i < xs.length) (y : Str) : ((xs.take i).any (· == y) || decide (y = xs.getD i Str.empty)) = (xs.take (i + 1)).any (· == y) := by
  have e : xs.getD i Str.empty = xs[i] := by rw [List.getD_eq_getElem?_getD, List.getElem?_eq_getElem hi]; rfl
  rw [e, List.take_succ, List.getElem?_eq_getElem hi, List.any_append]
  congr 1
  by_cases q : y = xs[i]
  · rw [decide_eq_true q, q]; simp
  · rw [decide_eq_false q]
    have : (xs[i] == y) = false := by simpa using fun z : xs[i] = y => q z.symm
    simp [this]
theorem take_new {xs : List Str} (hd : xs.Nodup) {i : Nat} (hi : i < xs.length) : (xs.take i).any (· == xs.getD i Str.empty) = false := by
  have e : xs.getD i Str.empty = xs[i] := by rw [List.getD_eq_getElem?_getD, List.getElem?_eq_getElem hi]; rfl
  rw [e]
  refine List.any_eq_false.mpr fun y hy => ?_
  obtain ⟨j, hj, rfl⟩ := List.mem_take_iff_getElem.mp hy
  have hji : j < i := by omega
  have hne : xs[j] ≠ xs[i] := (List.pairwise_iff_getElem.mp hd) j i (by omega) hi hji
  simpa using hne
theorem loopD (W : WalksS prog w A.in1 I fp wr G n P St) (S : Addr) (apart : S ∉ fp) (xs : List Str) (len : xs.length = n) (dist : xs.Nodup) (room : n + 1 < scanBound) (texts : ∀ i v, P i v → ∃ t, v = .str (xs.getD i Str.empty) t) :
    ∀ (k i : Nat) (s : Shared), n - i = k → i ≤ n → St i s → Firsts prog w s.heap S xs i → (∀ s', Moved (S :: wr) G s s' → Firsts prog w s'.heap S xs n → R (.ok (.ret .none)) s') → codeAny (model prog w) A (.builtin "set.update.loop" ⟨[.ref S, .ref I], []⟩) R s := by
  have notw : S ∉ wr := fun h => apart (W.sub _ h)
  have more : ∀ b ∈ wr, b ∈ S :: wr := fun b hb => List.mem_cons_of_mem _ hb
  intro k
  induction k with
  | zero =>
    intro i s hk le st fs out
    obtain rfl : i = n := by omega
    refine codeAny_builtin PyProof.Rows.F.entry_set_update_loop (by
      rw [Around.under_plainId PyProof.Rows.F.plain_set_update_loop _]
      show wpAny _ A.in1 (pyNext (.ref I) >>= _) _ _ s
      refine wpAny_bind (W.done s _ _ st fun s' mv => ?_)
      show wpAny _ A.in1 (ret Value.none) _ _ s'
      exact wpAny_pure (out s' (mv.mono more) (firsts_moved fs fun o ho => mv.heap S _ notw ho)))
  | succ k ih =>
    intro i s hk le st fs out
    have lt : i < n := by omega
    have lx : i < xs.length := by omega
    refine codeAny_builtin PyProof.Rows.F.entry_set_update_loop (by
      rw [Around.under_plainId PyProof.Rows.F.plain_set_update_loop _]
      show wpAny _ A.in1 (pyNext (.ref I) >>= _) _ _ s
      refine wpAny_bind (W.item i s _ _ lt st fun v s' hP st' mv => ?_)
      obtain ⟨t, rfl⟩ := texts i v hP
      have fs' : Firsts prog w s'.heap S xs i := firsts_moved fs fun o ho => mv.heap S _ notw ho
      show wpAny _ A.in1 (holding [Value.str (xs.getD i Str.empty) t] (setAdd S (.str (xs.getD i Str.empty) t)) >>= _) _ _ s'
      refine wpAny_bind (wpAny_holding ?_)
      unfold setAdd
      refine wpAny_holding (wpAny_bind ((PySem.strKind prog w).pyHash (k := xs.getD i Str.empty) (strKind_is _ _ _ _) ?_))
      refine wpAny_setAddHashed_of (knd := PySem.strKind prog w) (s := { s' with toks := s'.toks + 1 }) (strKind_is _ _ _ _) rfl fs' (by omega) fun h' same fs2 => ?_
      have fs3 : Firsts prog w h' S xs (i + 1) := SetOf_congr fs2 (fun y => take_any lx y) (by rw [take_new dist lx]; rfl)
      refine wpAny_pure ⟨plainId_quiet PyProof.Rows.F.plain_set_update_loop _, ih (i + 1) _ (by omega) lt (W.frame _ s' _ _ st' (Nat.le_succ _) fun b hb o e => ?_) fs3 fun s'' mv2 fs4 => ?_⟩
      · rw [same.2 b (fun z : b = S => apart (by rw [← z]; exact hb))]; exact e
      · refine out s'' (Moved.trans W.gtrans ((mv.mono more).then_heap (Nat.le_succ _) fun b o hb e => ?_) mv2) fs4
        rw [same.2 b (fun z : b = S => hb (by rw [z]; exact List.mem_cons_self))]; exact e)
end
section
variable {prog : Program} {w : World} {A : Around} {E : Value → Shared → Prop} {s : Shared}
abbrev newSet (led : Bool) : Obj := { cls := .type "set", dict := none, data := .set #[] 0 (.fresh 0 0 led) }
theorem callSetD {l : Addr} {items : Array Value} {xs : List Str} {Q : Value → Shared → Prop} (calm : A.handled = none) (lst : s.heap.IsList l items) (txts : PyProof.Rows.StrsAre items.toList xs) (dist : xs.Nodup) (room : xs.length + 1 < scanBound)
    (z : ∀ (h' : Heap) (tk : Nat), Firsts prog w h' s.heap.objs.size xs items.size → (∀ b o, b < s.heap.objs.size → s.heap.get? b = some o → h'.get? b = some o) → Q (.ref s.heap.objs.size) { s with heap := h', toks := tk }) :
    wpAny (model prog w) A (call (.type "set") [.ref l]) Q E s := by
  obtain ⟨c, tl, _mro⟩ := PySem.F.called_set.mro
  have _made := PySem.F.called_set.made
  have _sub := PySem.F.called_set.sub
  refine wpAny_call (codeAny_of_tree (show wpAny _ _ (callAny (.type "set") _) _ _ _ from ?_))
  refine wpAny_pure ⟨Code.quiet_builtin _ (by decide +kernel), codeAny_builtin PySem.F.entry_type_call ?_⟩
  rw [Around.under_plain (weight_type_call_type "set" [.ref l] []) rfl]
  have _n1 := PySem.F.called_set.notType
  have _n2 := PySem.F.called_set.canCreate
  have _ct := PySem.F.typeCall_set_1 (.ref l)
  repeat (any_goals (first | assumption | wp_step))
  refine codeAny_mono (code_set_new_1 (.ref l) (E := E) (Q₁ := fun obj s₁ => ∃ led : Bool, obj = .ref s.heap.objs.size ∧ s₁ = { s with heap := s.heap.push (newSet led) }) fun led => ⟨led, rfl, rfl⟩) fun r s₁ hr => ?_
  cases r with
  | error e => exact hr
  | ok fl =>
    cases fl with
    | ret obj =>
      obtain ⟨led, rfl, rfl⟩ := hr
      have there : (s.heap.push (newSet led)).get? s.heap.objs.size = some (newSet led) := Heap.get?_push_size _ rfl
      have ty : Shared.TypeIs { s with heap := s.heap.push (newSet led) } (.ref s.heap.objs.size) "set" := ⟨_, there, rfl⟩
      have _li := PySem.F.called_set.init.lookup
      have _bi := PySem.F.called_set.init.bind (.ref s.heap.objs.size)
      repeat (any_goals (first | assumption | wp_step))
      refine codeAny_mono (codeAny_call_builtin (R := wants (fun r s₂ => r = .none ∧ ∃ h' tk, s₂ = { s with heap := h', toks := tk } ∧ Firsts prog w h' s.heap.objs.size xs items.size ∧ (∀ b o, b < s.heap.objs.size → s.heap.get? b = some o → h'.get? b = some o)) E)
        PySem.F.called_set.init.plain PySem.F.entry_set_init (check_set_init_1 ty ?_)) fun r₂ s₂ hr₂ => ?_
      · obtain ⟨ol, hol, cls, nl, dat⟩ := lst
        obtain ⟨ocls, odict, odata, oslots⟩ := ol
        simp only at cls dat
        subst cls dat
        have hol' : (s.heap.push (newSet led)).get? l = some { cls := .type "list", dict := odict, data := .seq items nl, slots := oslots } := Heap.get?_push_of_some _ hol
        have _s1 := PySem.F.sub_list_set
        have _s2 := PySem.F.sub_list_frozenset
        have _s3 : (Value.type "list" == Value.type "dict") = false := by decide
        have lst1 : (s.heap.push (newSet led)).IsList l items := ⟨_, hol', rfl, nl, rfl⟩
        unfold Builtin.«set.__init__» noKeywords Builtin.Frozenset.updateFrom
        generalize eqI : pyIter = PI
        wp_walk
        subst eqI
        refine wpAny_pyIter_list lst1 (wpAny_bind (wpAny_runValue ?_))
        have below : l < s.heap.objs.size := Heap.lt_size hol
        have calm3 : A.in1.in1.in1.handled = none := by simp [calm]
        have sz : (s.heap.push (newSet led)).objs.size = s.heap.objs.size + 1 := Heap.size_push _ _
        have ne1 : l ≠ (s.heap.push (newSet led)).objs.size := by rw [sz]; exact Nat.ne_of_lt (Nat.lt_succ_of_lt below)
        have apart : s.heap.objs.size ∉ [(s.heap.push (newSet led)).objs.size, l] := by
          rw [sz]
          simp only [List.mem_cons, List.mem_singleton, List.not_mem_nil, or_false, not_or]
          exact ⟨Nat.ne_of_lt (Nat.lt_succ_self _), Nat.ne_of_gt below⟩
        have len : xs.length = items.size := by rw [← StrsAre.len_eq txts, Array.length_toList]
        refine loopD ((Walks.list calm3 _ l ne1 items).toS) s.heap.objs.size apart xs len dist (by omega) (fun i v hv => SS.strs_at txts i v (by rw [Array.getElem?_toList]; exact hv)) (items.size - 0) 0 _ (by omega) (Nat.zero_le _)
          ⟨⟨_, Heap.get?_push_size _ rfl, rfl, rfl⟩, (lst1.push _)⟩ ?start ?out
        case start =>
          have got : ((s.heap.push (newSet led)).push { cls := .type "list_iterator", data := .fields #[.ref l, .int 0 0] }).get? s.heap.objs.size = some (newSet led) := Heap.get?_push_of_some _ there
          exact PyProof.Rows.SetOf_congr ((PyProof.Rows.setObjOf_fresh (knd := PySem.strKind prog w) led).setOf got (by unfold scanBound; omega)) (fun _ => rfl) rfl
        case out =>
          intro s' mv fs
          obtain ⟨h', g', d', tk', os'⟩ := s'
          obtain rfl : g' = s.gens := mv.gens
          obtain rfl : d' = s.drawn := mv.drawn
          obtain rfl : os' = s.os := mv.os
          show wpAny _ _ _ _ _ _
          refine wpAny_pure (show wpAny _ _ (ret Value.none) _ _ _ from wpAny_pure ⟨rfl, h', tk', rfl, fs, fun b o hb e => ?_⟩)
          have ne2 : b ≠ s.heap.objs.size ∧ b ≠ (s.heap.push (newSet led)).objs.size := ⟨Nat.ne_of_lt hb, by rw [sz]; exact Nat.ne_of_lt (Nat.lt_succ_of_lt hb)⟩
          exact mv.heap b o (by simp only [List.mem_cons, List.mem_singleton, List.not_mem_nil, or_false, not_or]; exact ne2) (Heap.get?_push_of_some _ (Heap.get?_push_of_some _ e))
      · cases r₂ with
        | error e => exact hr₂
        | ok fl₂ =>
          cases fl₂ with
          | ret r =>
            obtain ⟨rfl, h', tk, rfl, fs, kept⟩ := hr₂
            repeat (any_goals (first | assumption | wp_step))
            exact z _ _ fs kept
          | _ => exact hr₂.elim
    | _ => exact hr.elim
end
/-- len(set(xs)), xs a list of different texts -/
def tLenD (K : PySem.W.Frag) (ta : TE) : TE := fun σ H Q => ta σ H fun x H1 => ∃ l, ∃ xs : List Str, x = .ref l ∧ SqL K H1 l (xs.map V.str) ∧ xs.Nodup ∧ xs.length + 1 < scanBound ∧ Q (.int xs.length) H1
theorem pe_lenD {X : Cx} {a : Expr} {ta : TE} {p p2 q pos : Pos} (hc : X.calm = true) (hg : Gl X "len") (hm : X.mg "len" = none) (hg2 : Gl X "set") (hm2 : X.mg "set" = none) (ha : PE X a ta)
    (na : starEach [a] X.env = (false, eval a X.env) :: starEach [] X.env := by rfl) : PE X (.Call (.Name "len" p) [.Call (.Name "set" p2) [a] [] q] [] pos) (tLenD X.K ta) := by
  refine ⟨fun pins s σ H Q I h => ?_⟩
  refine Call_ (ld_blt I hg hm boot_len (PyProof.Rows.callWith_builtin1 (PyProof.Rows.args_cons ?_ rfl) rfl rfl))
  refine Call_ (ld_blt I hg2 hm2 boot_set ?_)
  refine PyProof.Rows.callWith_type1 (PyProof.Rows.args_cons (thn (ha.run pins s σ H _ I h) fun v s1 ⟨x, H1, I1, r1, l, xs, ex, hq, hd, hb, q1⟩ => PyProof.Rows.args_nil ?_) na) na rfl
  subst ex
  cases r1
  obtain ⟨its, r, pl, hz⟩ := I1.list hq
  refine callSetD (I1.ok.hd hc) pl.isList (by simpa using strsAre_of r) hd hb fun h' tk hS hk => PyProof.Rows.args_nil ?_
  have hl : its.toArray.size = xs.length := by rw [List.size_toArray, ← r.length, List.length_map]
  rw [hl] at hS
  obtain ⟨o, es, ep, t, ho, hex, hdt, _, _, _, hf, hn⟩ := hS
  have I2 : Inv X pins σ H1 { s1 with heap := h', toks := tk } := I1.kept fun b o e => hk b o (Heap.lt_size e) e
  exact call_len_set ho hex hdt hf (by rw [hn]; unfold scanBound at hb; omega) ⟨.int xs.length, H1, I2.tok _, ⟨_, by rw [hn]⟩, q1⟩
end SD

set_option autoImplicit false
namespace N8
open PySem PySem.Spec PyProof.Rows L2 Evl
open SX (S)
def flags9 : List Str := ["public", "private", "protected", "static", "final", "synchronized", "abstract", "interface", "native"]
/-- words of a row of flags -/
def Flags (ws : List Str) : Prop := (∀ x ∈ ws, x ∈ flags9) ∧ ws.Nodup ∧ ws.length ≤ 20
def inOrder (ws : List Str) : List Str := flags9.filter fun x => decide (x ∈ ws)
theorem eqV_str (a b : Str) : eqV (.str a) (.str b) = decide (a = b) := by
  unfold eqV
  by_cases h : a = b
  · subst h; simp
  · simp [h]
theorem inV_strs (x : Str) (ws : List Str) : inV (.str x) (ws.map V.str) = decide (x ∈ ws) := by
  unfold inV
  rw [List.any_map]
  by_cases h : x ∈ ws
  · rw [decide_eq_true h]
    exact List.any_eq_true.mpr ⟨x, h, by show eqV (.str x) (.str x) = true; rw [eqV_str, decide_eq_true rfl]⟩
  · rw [decide_eq_false h]
    refine List.any_eq_false.mpr fun y hy => ?_
    show ¬ eqV (.str y) (.str x) = true
    rw [eqV_str]
    intro q
    exact h (of_decide_eq_true q ▸ hy)
theorem flat_strs (ws : List Str) : (ws.map V.str).all flatV = true := by
  rw [List.all_map]
  exact List.all_eq_true.mpr fun _ _ => rfl
section
variable {K : PySem.W.Frag} {σ : L2.St} {H H' : Hp} {te ta tb tl : TE} {t : TT} {r : R2} {v x : V} {D : Ends} {tz tu : TS} {Q : VK}
/-- [.. for x in a tuple] -/
theorem el_lcT {a : Addr} {xs : List V} {j : Nat} {vs : List Nat} (f : Nat → Bool) (v : Nat → V) (h : Ev tl σ H (.ref a)) (hx : ∀ H1, Ex H H1 → SqT K H1 a xs) (hz : xs.length ≤ 40000) (hw : ∀ x, wipe ((wipe σ vs).set j (some x)) vs = wipe σ vs)
    (ht : ∀ (i : Nat) (x : V) H1, Ex H H1 → xs[i]? = some x → EvT t ((wipe σ vs).set j (some x)) H1 (f i)) (he : ∀ (i : Nat) (x : V) H1, Ex H H1 → xs[i]? = some x → f i = true → Ev te ((wipe σ vs).set j (some x)) H1 (v i)) :
    EvL (tLc (iTup K tl) (gName j) t te vs) σ H (given xs.length f v) := fun H0 e Q q => h H0 e _ fun H1 e1 => ⟨a, rfl, ⟨xs, hx _ (e.trans e1)⟩, fun Dl hD =>
  lc_tup (xs := xs) (Cw H1 f v Dl) ⟨hD, Ex.new hD, upd_same⟩ (fun i H' _ p => hx _ ((e.trans e1).trans p.2.1)) (fun i x H' hi p => ⟨hw x, cw_turn p (by have := (List.getElem?_eq_some_iff.mp hi).1; omega) (ht i x H1 (e.trans e1) hi) (fun hf => he i x H1 (e.trans e1) hi hf)⟩)
    (fun H' p => q Dl H' (fresh_back e1 p.1) (e1.trans p.2.1) p.2.2)⟩
theorem ev_lenTup {p : Addr} {xs : List V} (h : Ev te σ H (.ref p)) (hp : H p = some (.tup xs)) : Ev (tCB (rLenS K) (tCons te tNil)) σ H (.int (xs.length : Int)) := fun H1 e Q q =>
  h H1 e _ fun H2 e2 => ⟨p, xs, rfl, .inr (st_of (e2 _ _ (e _ _ hp))), q H2 e2⟩
theorem ev_lenLst {p : Addr} {xs : List V} (h : Ev te σ H (.ref p)) (hp : H p = some (.lst xs)) : Ev (tCB (rLenS K) (tCons te tNil)) σ H (.int (xs.length : Int)) := fun H1 e Q q =>
  h H1 e _ fun H2 e2 => ⟨p, xs, rfl, .inl (sq_of (e2 _ _ (e _ _ hp))), q H2 e2⟩
theorem ev_lenD {p : Addr} {ws : List Str} (h : Ev te σ H (.ref p)) (hp : H p = some (.lst (ws.map V.str))) (hd : ws.Nodup) (hl : ws.length ≤ 20) : Ev (SD.tLenD K te) σ H (.int (ws.length : Int)) := fun H1 e Q q =>
  h H1 e _ fun H2 e2 => ⟨p, ws, rfl, sq_of (e2 _ _ (e _ _ hp)), hd, by unfold scanBound; omega, q H2 e2⟩
/-- tuple(xs), xs a new list -/
theorem eu_tupleL {xs : List V} (h : EvL te σ H xs) : EvU (tCB (fun xs H Q => ∃ p ys, xs = [.ref p] ∧ ((SqL K H p ys ∧ ∀ l, H l = none → Q (.ref l) (upd H l (.tup ys))) ∨ (SqT K H p ys ∧ Q (.ref p) H))) (tCons te tNil)) σ H xs := fun H1 e Q q =>
  h H1 e _ fun p H2 hp e2 h2 => ⟨p, xs, rfl, .inl ⟨sq_of h2, fun l hl => q l _ (fresh_back e2 hl) (e2.trans (Ex.new hl)) upd_same⟩⟩
end
theorem given_map (n : Nat) (v : Nat → V) : given n (fun _ => true) v = (List.range n).map v := by
  unfold given
  rw [List.filter_eq_self.mpr (fun _ _ => rfl)]
theorem given_strs {ws : List Str} (f : Str → Bool) : given ws.length (fun i => f (ws.getD i Str.empty)) (fun i => .str (ws.getD i Str.empty)) = (ws.filter f).map V.str := by
  have key : ∀ n, n ≤ ws.length → given n (fun i => f (ws.getD i Str.empty)) (fun i => V.str (ws.getD i Str.empty)) = ((ws.take n).filter f).map V.str := by
    intro n
    induction n with
    | zero => intro _; rfl
    | succ n ih =>
      intro h
      have hn : n < ws.length := by omega
      have e : ws.getD n Str.empty = ws[n] := by rw [List.getD_eq_getElem?_getD, List.getElem?_eq_getElem hn]; rfl
      have e2 : ws.take (n + 1) = ws.take n ++ [ws[n]] := by rw [List.take_succ, List.getElem?_eq_getElem hn]; rfl
      rw [e2, List.filter_append, List.map_append, ← ih (by omega)]
      cases hf : f (ws.getD n Str.empty) with
      | true =>
        rw [given_yes (f := fun i => f (ws.getD i Str.empty)) hf]
        rw [e] at hf ⊢
        rw [List.filter_cons_of_pos hf]; rfl
      | false =>
        rw [given_no (f := fun i => f (ws.getD i Str.empty)) hf]
        rw [e] at hf
        rw [List.filter_cons_of_neg (by rw [hf]; decide)]; simp
  rw [key ws.length (Nat.le_refl _), List.take_length]
/-- the tuple FLAGS, at aF -/
def Flg (K : PySem.W.Frag) (mg : Str → Option Value) : Prop := ∃ a, mg "FLAGS" = some (.ref a) ∧ ∀ H, SqT K H a (flags9.map V.str)
def spFlags : Sp := fun vs H Q _ => ∃ (p : Addr) (ws : List Str), vs = [.ref p] ∧ H p = some (.lst (ws.map V.str)) ∧ Flags ws ∧ ∀ H', Ex H H' → Q (.bl true) H'
def spInOrder : Sp := fun vs H Q _ => ∃ (p : Addr) (ws : List Str), vs = [.ref p] ∧ H p = some (.lst (ws.map V.str)) ∧ ∀ q H', H q = none → Ex H H' → H' q = some (.tup ((inOrder ws).map V.str)) → Q (.ref q) H'
section
variable {P : Program} {w : World} {K : PySem.W.Frag} {mg : Str → Option Value} {base : Heap}
theorem ok_isTupleOf {f : Addr} {fd : FuncData} (F : FnP K "is_tuple_of" sIsTupleOf f fd) (B : Bt mg) : FnOk P w K mg base L2.CX0 1 f fd ["thing", "many"] (spTupOf K) := by
  refine F.ok scIsTupleOf (fun vs H Q E h => ?_) (fun cdv A outer s H vs Q E hr h => ?_)
  · obtain ⟨p, xs, rfl, _⟩ := h
    rfl
  · obtain ⟨p, xs, rfl, hp, hl, q⟩ := h
    refine ⟨_, PSs.nox (pss_one (ps_ret (pe_and (pe_callB call_isi (by rfl) B.isi (by decide +kernel) (pa_cons (pv 0) (pa_cons (pe_bltn (v := .ty "tuple") (by rfl) B.tuple (by decide +kernel) rfl) pa_nil))) (pe_one (pe_cmpR op_eq (pe_callB call_len_seq (by rfl) B.len PySem.boot_len (pa_cons (pv 0) pa_nil)) (pv 1) (nomark _)))))), ?_⟩
    exact s_ret (ev_is (ev_andV (a := true) (b := true) (ev_isi (ev_var rfl) (.base (.tup hp)) (by decide +kernel)) fun _ => ev_op (ev_lenTup (ev_var rfl) hp) (ev_var rfl) (rv_is rv_eqI (by rw [decide_eq_true rfl]))) rfl) q
theorem ok_isWithin {f : Addr} {fd : FuncData} (F : FnP K "is_within" sIsWithin f fd) (B : Bt mg) (c_is_integer : Cl P w K mg base L2.CX0 1 "is_integer" ["thing"] spInt) : FnOk P w K mg base L2.CX0 2 f fd ["thing", "low", "high"] spWithin := by
  refine F.ok scIsWithin (fun vs H Q E h => ?_) (fun cdv A outer s H vs Q E hr h => ?_)
  · obtain ⟨x, lo, hi, b, rfl, _⟩ := h
    rfl
  · obtain ⟨x, lo, hi, b, rfl, hx, q⟩ := h
    refine ⟨_, PSs.nox (pss_one (ps_ret (pe_and (pe_cl c_is_integer hr (by decide) (by rfl) (pa_cons (pv 0) pa_nil)) (pe_one (pe_chain op_le op_le (pv 1) (pv 0) (pv 2)))))), ?_⟩
    rcases hx with ⟨i, rfl, rfl⟩ | ⟨hx, rfl⟩
    · exact s_ret (ev_is (ev_andV (a := true) (b := decide (lo ≤ i) && decide (i ≤ hi)) (ev_call (ea_cons (ev_var rfl) ea_nil) fun H1 e Q' q' E' => ⟨_, true, rfl, .int i, fun H' e' => q' H' e'⟩) fun _ => ev_chain (a := decide (lo ≤ i)) (b := decide (i ≤ hi)) (ev_var rfl) (ev_var rfl) rv_le fun _ => ⟨ev_var rfl, rv_le⟩) rfl) q
    · exact s_ret (ev_is (ev_andV (a := false) (b := false) (ev_call (ea_cons (ev_var rfl) ea_nil) fun H1 e Q' q' E' => ⟨_, false, rfl, hx, fun H' e' => q' H' e'⟩) fun e => by cases e) rfl) q
theorem ok_rowOfFlags {f : Addr} {fd : FuncData} (F : FnP K "_is_row_of_flags" sIsRowOfFlags f fd) (B : Bt mg) (gF : Flg K mg) (c_is_row : Cl P w K mg base L2.CX0 1 "is_row" ["thing"] (spRow K)) : FnOk P w K mg base L2.CX0 2 f fd ["thing"] spFlags := by
  obtain ⟨aF, g_FLAGS, hF⟩ := gF
  refine F.ok scIsRowOfFlags (fun vs H Q E h => ?_) (fun cdv A outer s H vs Q E hr h => ?_)
  · obtain ⟨p, ws, rfl, _⟩ := h
    rfl
  · obtain ⟨p, ws, rfl, hp, hf, q⟩ := h
    refine ⟨_, PSs.nox (pss_cons (ps_if (PW.pt (pw_or (pt_not (pt_val (pe_cl c_is_row hr (by decide) (by rfl) (pa_cons (pv 0) pa_nil)))) (pw_or1 (pt_not (pt_val (pe_callB (cr_all rfl) (by rfl) B.all (by decide +kernel) (pa_cons (pe_lc (own := [("word", 1)]) (g := gName 1) (tt := tYes) rfl scIsRowOfFlags.nd (pi_list (pv 0)) (blkOk_by (N := ["thing", "word"]) (sc := L2.defScope sIsRowOfFlags) (by decide +kernel)) (fun _ _ _ _ _ => pg_name (i := 1) scIsRowOfFlags.nd rfl (Or.inl rfl)) (fun _ _ _ _ _ => pts_nil) (fun _ _ _ _ _ => (pe_cmpR (r := rIn K false) op_in_seq (pv 1) (pe_glob (v := .ref aF) (by rfl) g_FLAGS rfl) rfl))) pa_nil))))))) (pss_one (ps_ret pe_bl)) pss_nil)
      (pss_one (ps_ret (pe_cmpR op_eq (SD.pe_lenD rfl (by rfl) B.len (by rfl) B.set (pv 0)) (pe_callB call_len_seq (by rfl) B.len PySem.boot_len (pa_cons (pv 0) pa_nil)) (nomark _))))), ?_⟩
    refine q_when (b := false) (et_is (et_or (a := false) (b := false) (et_is (et_not (et_test (ev_call (ea_cons (ev_var rfl) ea_nil) fun H1 e Q' q' E' => ⟨p, _, rfl, .inl (e _ _ hp), q'⟩))) rfl) fun _ => et_is (et_not (et_test (ev_all (bs := ws.map fun _ => true) ?_))) ?_) rfl) (fun e => by cases e) fun _ H1 x1 => ?_
    · rw [show (ws.map fun _ => true).map V.bl = given (ws.map V.str).length (fun _ => true) (fun _ => V.bl true) by rw [given_map, List.length_map]; simp [List.map_const']]
      refine el_lcL (xs := ws.map V.str) (fun _ => true) (fun _ => V.bl true) (ev_var rfl) (sq_of hp) (by rw [List.length_map]; have := hf.2.2; omega) (fun _ => rfl) (fun i y H2 x2 hy => fun H3 e3 Q' q' => q' H3 (Ex.refl H3)) (fun i y H2 x2 hy _ => ?_)
      obtain ⟨z, hz, rfl⟩ := List.mem_map.mp (List.mem_of_getElem? hy)
      have hin : inV (.str z) (flags9.map V.str) = true := by rw [inV_strs]; exact decide_eq_true (hf.1 z hz)
      exact ev_is (ev_op (ev_var rfl) ev_c (rv_isT (hF _) rfl (flat_strs _))) (by rw [hin])
    · rw [List.all_map]
      show (!(ws.all fun _ => true)) = false
      rw [List.all_eq_true.mpr (fun _ _ => rfl)]; rfl
    · exact s_ret (ev_op (ev_lenD (ev_var rfl) (x1 _ _ hp) hf.2.1 hf.2.2) (ev_lenLst (ev_var rfl) (x1 _ _ hp)) (rv_is rv_eqI (by rw [List.length_map, decide_eq_true rfl]))) fun H2 x2 => q H2 (x1.trans x2)
theorem ok_inOrder {f : Addr} {fd : FuncData} (F : FnP K "_in_order" sInOrder f fd) (B : Bt mg) (gF : Flg K mg) : FnOk P w K mg base L2.CX0 1 f fd ["flags"] spInOrder := by
  obtain ⟨aF, g_FLAGS, hF⟩ := gF
  refine F.ok scInOrder (fun vs H Q E h => ?_) (fun cdv A outer s H vs Q E hr h => ?_)
  · obtain ⟨p, ws, rfl, _⟩ := h
    rfl
  · obtain ⟨p, ws, rfl, hp, q⟩ := h
    refine ⟨_, PSs.nox (pss_one (ps_ret (pe_callTy call_tuple_of (by rfl) B.tuple (by decide +kernel) (pa_cons (pe_lc (own := [("word", 1)]) (g := gName 1) rfl scInOrder.nd (pi_tup (pe_glob (v := .ref aF) (by rfl) g_FLAGS rfl)) (blkOk_by (N := ["flags", "word"]) (sc := L2.defScope sInOrder) (by decide +kernel)) (fun _ _ _ _ _ => pg_name (i := 1) scInOrder.nd rfl (Or.inl rfl)) (fun _ _ _ _ _ => (pts_one (pt_cmpR (r := rIn K false) op_in_seq (pv 1) (pv 0) rfl))) (fun _ _ _ _ _ => (pv 1))) pa_nil)))), ?_⟩
    refine s_retU (eu_tupleL (xs := (inOrder ws).map V.str) ?_) fun r H1 hr x1 h1 => q r H1 hr x1 h1
    have e : (inOrder ws).map V.str = given (flags9.map V.str).length (fun i => decide (flags9.getD i Str.empty ∈ ws)) (fun i => V.str (flags9.getD i Str.empty)) := by
      rw [List.length_map]
      exact (given_strs (ws := flags9) fun x => decide (x ∈ ws)).symm
    rw [e]
    refine el_lcT (xs := flags9.map V.str) _ _ ev_c (fun H1 _ => hF H1) (by decide) (fun _ => rfl) (fun i y H1 x1 hy => ?_) (fun i y H1 x1 hy _ => ?_)
    · rw [List.getElem?_map] at hy
      obtain ⟨z, hz, rfl⟩ := Option.map_eq_some_iff.mp hy
      have ez : flags9.getD i Str.empty = z := by rw [List.getD_eq_getElem?_getD, hz]; rfl
      rw [ez]
      exact et_test (ev_is (ev_op (ev_var rfl) (ev_var rfl) (rv_isL (sq_of (x1 _ _ hp)) rfl (flat_strs _))) (by rw [inV_strs]))
    · rw [List.getElem?_map] at hy
      obtain ⟨z, hz, rfl⟩ := Option.map_eq_some_iff.mp hy
      have ez : flags9.getD i Str.empty = z := by rw [List.getD_eq_getElem?_getD, hz]; rfl
      rw [ez]
      exact ev_var rfl
end
end N8

set_option autoImplicit false
namespace N8
open PySem PySem.Spec PyProof.Rows L2 Evl
open SX (S)
/-- a statement that is never reached -/
theorem ps_never {X : Cx} {st : Stmt} : PS X st (fun _ _ _ => False) := ⟨fun _ _ _ _ _ _ h => h.elim⟩
def signsL : List Nat := [32, 33, 34, 35, 36, 38, 39, 40, 41, 42, 43, 44, 45, 46, 47, 48, 49, 50, 51, 52, 53, 54, 55, 56, 57, 58, 59, 60, 61, 62, 63, 64, 65, 66, 67, 68, 69, 70, 71, 72, 73, 74, 75, 76, 77, 78, 79, 80, 81, 82, 83, 84, 85, 86, 87, 88, 89, 90, 91, 92, 93, 94, 95, 96, 97, 98, 99, 100, 101, 102, 103, 104, 105, 106, 107, 108, 109, 110, 111, 112, 113, 114, 115, 116, 117, 118, 119, 120, 121, 122, 123, 124, 125, 126]
def isTextSign (c : Nat) : Bool := decide (c ∈ signsL)
def spText : Sp := fun vs H Q _ => ∃ l, vs = [.str (S l)] ∧ l.length ≤ 20000 ∧ ∀ H', Ex H H' → Q (.bl (l.all isTextSign)) H'
/-- a constant of a field -/
def ConstOk (x : V) : Prop := x = .non ∨ (∃ i : Int, x = .int i ∧ -9223372036854775808 ≤ i ∧ i ≤ 9223372036854775807) ∨ ∃ l, x = .str (S l) ∧ l.length ≤ 200 ∧ l.all isTextSign = true
def spConst : Sp := fun vs H Q _ => ∃ x, vs = [x] ∧ ConstOk x ∧ ∀ H', Ex H H' → Q (.bl true) H'
def spString : Sp := fun vs H Q _ => ∃ l, vs = [.str (S l)] ∧ l.length ≤ 200 ∧ l.all isTextSign = true ∧ ∀ H', Ex H H' → Q (.bl true) H'
section
variable {K : PySem.W.Frag} {σ : L2.St} {H H' : Hp} {te ta tb tl : TE} {t : TT} {r : R2} {v x : V} {D : Ends} {tz tu : TS} {Q : VK}
theorem rv_inS {c : Nat} {l : List Nat} {z : Str} (ez : z = S l) : RV (fun x y H Q => ∃ (c : Nat) (z : Str), x = .str ⟨#[c]⟩ ∧ y = .str z ∧ Q (.bl (decide (c ∈ z.cps.toList))) H) (.str (S [c])) (.str z) H (.bl (decide (c ∈ l))) := fun H1 e Q q => by
  subst ez
  exact ⟨c, S l, rfl, rfl, q H1 (Ex.refl H1)⟩
end
section
variable {P : Program} {w : World} {K : PySem.W.Frag} {mg : Str → Option Value} {base : Heap}
theorem ok_isText {f : Addr} {fd : FuncData} (F : FnP K "is_text" sIsText f fd) (B : Bt mg) (gS : ∃ z t, z = S signsL ∧ mg "SIGNS" = some (.str z t)) : FnOk P w K mg base L2.CX0 2 f fd ["thing"] spText := by
  obtain ⟨zS, tS, eS, g_SIGNS⟩ := gS
  refine F.ok scIsText (fun vs H Q E h => ?_) (fun cdv A outer s H vs Q E hr h => ?_)
  · obtain ⟨l, rfl, _⟩ := h
    rfl
  · obtain ⟨l, rfl, hl, q⟩ := h
    refine ⟨_, PSs.nox (pss_one (ps_ret (pe_and (pe_callB call_isi (by rfl) B.isi (by decide +kernel) (pa_cons (pv 0) (pa_cons (pe_bltn (v := .ty "str") (by rfl) B.str (by decide +kernel) rfl) pa_nil))) (pe_one (pe_callB (cr_all rfl) (by rfl) B.all (by decide +kernel) (pa_cons (pe_lc (own := [("sign", 1)]) (g := gName 1) (tt := tYes) rfl scIsText.nd (pi_str (pv 0)) (blkOk_by (N := ["thing", "sign"]) (sc := L2.defScope sIsText) (by decide +kernel)) (fun _ _ _ _ _ => pg_name (i := 1) scIsText.nd rfl (Or.inl rfl)) (fun _ _ _ _ _ => pts_nil) (fun _ _ _ _ _ => (pe_cmpR op_in_sign (pv 1) (pe_glob (v := .str zS) (by rfl) g_SIGNS ⟨_, rfl⟩) rfl))) pa_nil)))))), ?_⟩
    refine s_ret (ev_is (ev_andV (a := true) (b := (l.map isTextSign).all id) (ev_isStr (ev_var rfl)) fun _ => ev_all (bs := l.map isTextSign) ?_) ?_) q
    · rw [← map_bl, ← given_all l (fun c => V.bl (isTextSign c)) (fun i => .bl (isTextSign (l.getD i 0))) (fun i c h => by rw [getD_of h])]
      refine el_lcS (fun _ => true) _ (ev_var rfl) (by omega) (fun _ => rfl) (fun i c H2 _ hc => fun H3 e3 Q q => q H3 (Ex.refl H3)) (fun i c H2 _ hc _ => ?_)
      rw [getD_of hc]
      exact ev_op (ev_var rfl) ev_c (rv_inS eS)
    · rw [all_map]; rfl
theorem ok_isString {f : Addr} {fd : FuncData} (F : FnP K "is_string" sIsString f fd) (B : Bt mg) (gL : ∃ t, mg "LONGEST_STRING" = some (.int 200 t)) (c_is_text : Cl P w K mg base L2.CX0 2 "is_text" ["thing"] spText) : FnOk P w K mg base L2.CX0 3 f fd ["thing"] spString := by
  obtain ⟨tL, g_LONGEST_STRING⟩ := gL
  refine F.ok scIsString (fun vs H Q E h => ?_) (fun cdv A outer s H vs Q E hr h => ?_)
  · obtain ⟨l, rfl, _⟩ := h
    rfl
  · obtain ⟨l, rfl, hl, hA, q⟩ := h
    refine ⟨_, PSs.nox (pss_one (ps_ret (pe_and (pe_callB call_isi (by rfl) B.isi (by decide +kernel) (pa_cons (pv 0) (pa_cons (pe_bltn (v := .ty "str") (by rfl) B.str (by decide +kernel) rfl) pa_nil))) (pe_and (pe_cmpR op_le (pe_callB call_len_str (by rfl) B.len PySem.boot_len (pa_cons (pv 0) pa_nil)) (pe_glob (v := .int 200) (by rfl) g_LONGEST_STRING ⟨_, rfl⟩) (nomark _)) (pe_one (pe_cl c_is_text hr (by decide) (by rfl) (pa_cons (pv 0) pa_nil))))))), ?_⟩
    exact s_ret (ev_is (ev_andV (a := true) (b := true) (ev_isStr (ev_var rfl)) fun _ => ev_is (ev_andV (a := true) (b := true) (ev_op (ev_lenS (ev_var rfl) (by omega)) ev_c (rv_is rv_le (by rw [decide_eq_true (by omega)]))) fun _ => ev_call (ea_cons (ev_var rfl) ea_nil) fun H1 e Q' q' E' => ⟨l, rfl, by omega, fun H2 e2 => by rw [hA]; exact q' H2 e2⟩) rfl) rfl) q
theorem ok_isConstant {f : Addr} {fd : FuncData} (F : FnP K "_is_constant" sIsConstant f fd) (B : Bt mg) (gA : ∃ t, mg "LEAST_LONG" = some (.int (-9223372036854775808) t)) (gB : ∃ t, mg "GREATEST_LONG" = some (.int 9223372036854775807 t))
    (c_is_within : Cl P w K mg base L2.CX0 2 "is_within" ["thing", "low", "high"] spWithin) (c_is_string : Cl P w K mg base L2.CX0 3 "is_string" ["thing"] spString) : FnOk P w K mg base L2.CX0 4 f fd ["thing"] spConst := by
  obtain ⟨tA, g_LEAST_LONG⟩ := gA
  obtain ⟨tB, g_GREATEST_LONG⟩ := gB
  refine F.ok scIsConstant (fun vs H Q E h => ?_) (fun cdv A outer s H vs Q E hr h => ?_)
  · obtain ⟨x, rfl, _⟩ := h
    rfl
  · obtain ⟨x, rfl, hx, q⟩ := h
    refine ⟨_, PSs.nox (pss_one (ps_ret (pe_or (pe_cmpR op_isN (pv 0) pe_non (nomark _)) (pe_or (pe_cl c_is_within hr (by decide) (by rfl) (pa_cons (pv 0) (pa_cons (pe_glob (v := .int (-9223372036854775808)) (by rfl) g_LEAST_LONG ⟨_, rfl⟩) (pa_cons (pe_glob (v := .int 9223372036854775807) (by rfl) g_GREATEST_LONG ⟨_, rfl⟩) pa_nil)))) (pe_one (pe_cl c_is_string hr (by decide) (by rfl) (pa_cons (pv 0) pa_nil))))))), ?_⟩
    rcases hx with rfl | ⟨i, rfl, h1, h2⟩ | ⟨l, rfl, hl, hA⟩
    · exact s_ret (ev_is (ev_orV (a := true) (b := true) (fun H1 e Q q => ⟨.non, rfl, rfl, q H1 (Ex.refl H1)⟩) fun e => by cases e) rfl) q
    · exact s_ret (ev_is (ev_orV (a := false) (b := true) (fun H1 e Q q => ⟨_, rfl, rfl, q H1 (Ex.refl H1)⟩) fun _ => ev_is (ev_orV (a := true) (b := true) (ev_call (ea_cons (ev_var rfl) (ea_cons ev_c (ea_cons ev_c ea_nil))) fun H1 e Q' q' E' => ⟨_, _, _, true, rfl, .inl ⟨i, rfl, by rw [decide_eq_true h1, decide_eq_true h2]; rfl⟩, fun H' e' => q' H' e'⟩) fun e => by cases e) rfl) rfl) q
    · exact s_ret (ev_is (ev_orV (a := false) (b := true) (fun H1 e Q q => ⟨_, rfl, rfl, q H1 (Ex.refl H1)⟩) fun _ => ev_is (ev_orV (a := false) (b := true) (ev_call (ea_cons (ev_var rfl) (ea_cons ev_c (ea_cons ev_c ea_nil))) fun H1 e Q' q' E' => ⟨_, _, _, false, rfl, .inr ⟨.str _, rfl⟩, fun H' e' => q' H' e'⟩) fun _ => ev_call (ea_cons (ev_var rfl) ea_nil) fun H1 e Q' q' E' => ⟨l, rfl, hl, hA, fun H' e' => q' H' e'⟩) rfl) rfl) q
end
end N8

set_option autoImplicit false
namespace N8
open PySem PySem.Spec PyProof.Rows L2 Evl
open SX (S)
/-- all but what stands at a is as it was -/
def Exa (a : Addr) (H H' : Hp) : Prop := ∀ b o, b ≠ a → H b = some o → H' b = some o
theorem Exa.of {a : Addr} {H H' : Hp} (e : Ex H H') : Exa a H H' := fun b o _ h => e b o h
/-- the items of ys are to those of xs as Pe says -/
def Each (Pe : V → V → Hp → Prop) (H : Hp) (xs ys : List V) : Prop := ys.length = xs.length ∧ ∀ (i : Nat) x y, xs[i]? = some x → ys[i]? = some y → Pe x y H
section
variable {K : PySem.W.Frag} {σ : L2.St} {H H' : Hp} {te ta tb tl : TE} {t : TT} {r : R2} {v x : V} {D : Ends} {tz tu : TS} {Q : VK}
theorem lc_each {a : Addr} {xs : List V} {g : TG} {vs : List Nat} (Pe : V → V → Hp → Prop) (mono : ∀ {x y : V} {H H' : Hp} {D : Addr} {l : List V}, H D = some (.lst l) → Exa D H H' → Pe x y H → Pe x y H')
    (h : Ev tl σ H (.ref a)) (hx : SqL K H a xs) (hz : xs.length ≤ 40000)
    (he : ∀ x H1, x ∈ xs → Ex H H1 → ∀ Q : VK, (∀ y H2, Ex H1 H2 → Pe x y H2 → Q y H2) → g x (wipe σ vs) H1 fun σ2 H2 => wipe σ2 vs = wipe σ vs ∧ te σ2 H2 Q)
    (k : ∀ Dl ys H1, H Dl = none → Ex H H1 → H1 Dl = some (.lst ys) → Each Pe H1 xs ys → Q (.ref Dl) H1) : tLc (iList K tl) g tYes te vs σ H Q :=
  h H (Ex.refl H) _ fun H1 e1 => ⟨a, rfl, ⟨xs, ex_l e1 hx⟩, fun Dl hD => by
    refine lc_list (xs := xs) (fun i H2 => Ex H1 H2 ∧ ∃ ys, H2 Dl = some (.lst ys) ∧ ys.length = i ∧ ∀ (j : Nat) x y, xs[j]? = some x → ys[j]? = some y → Pe x y H2) ⟨Ex.new hD, [], upd_same, rfl, fun j x y _ hy => by simp at hy⟩
      (fun i H2 _ p => ex_l (e1.trans p.1) hx) (fun i x H2 hi p => ?_) (fun H2 p => ?_)
    · obtain ⟨p1, ys, p2, p3, p4⟩ := p
      have hil := (List.getElem?_eq_some_iff.mp hi).1
      have step := he x H2 (List.mem_of_getElem? hi) (e1.trans p1) (fun y H4 => ∃ acc, H4 Dl = some (.lst acc) ∧ acc.length < sizeLine ∧ (Ex H1 (upd H4 Dl (.lst (acc ++ [y]))) ∧ ∃ ys', (upd H4 Dl (.lst (acc ++ [y]))) Dl = some (.lst ys') ∧ ys'.length = i + 1 ∧ ∀ (j : Nat) x y', xs[j]? = some x → ys'[j]? = some y' → Pe x y' (upd H4 Dl (.lst (acc ++ [y]))))) (fun y H4 e4 hy => ?_)
      · exact step
      · have hxa : Exa Dl H4 (upd H4 Dl (.lst (ys ++ [y]))) := fun b o hb hbo => by rw [upd_ne hb]; exact hbo
        refine ⟨ys, e4 _ _ p2, sz_lt (by omega), (p1.trans e4).mut hD, _, upd_same, by rw [List.length_append, p3]; rfl, fun j x' y' hx' hy' => ?_⟩
        by_cases hj : j < ys.length
        · rw [List.getElem?_append_left hj] at hy'
          exact mono (e4 _ _ p2) hxa (mono p2 (Exa.of e4) (p4 j x' y' hx' hy'))
        · have : j = ys.length := by
            have := (List.getElem?_eq_some_iff.mp hy').1
            rw [List.length_append] at this
            simp at this
            omega
          subst this
          rw [List.getElem?_append_right (Nat.le_refl _), Nat.sub_self] at hy'
          obtain rfl : y = y' := by simpa using hy'
          rw [p3, hi] at hx'
          obtain rfl := Option.some.inj hx'
          exact mono (e4 _ _ p2) hxa hy
    · obtain ⟨p1, ys, p2, p3, p4⟩ := p
      exact k Dl ys H2 (fresh_back e1 hD) (e1.trans p1) p2 ⟨p3, p4⟩⟩
end
/-! ### fields and methods -/
/-- a member: name, descriptor, flags, and what it has -/
structure Mem where
  name : List Nat
  desc : List Nat
  ws : List Str
  x : V
/-- as it is handed in -/
def MemAt (H : Hp) (v : V) (m : Mem) : Prop := ∃ t fl, v = .ref t ∧ H t = some (.tup [.str (S m.name), .str (S m.desc), .ref fl, m.x]) ∧ H fl = some (.lst (m.ws.map V.str))
/-- as it is kept -/
def KeptAt (H : Hp) (v : V) (m : Mem) : Prop := ∃ t fl, v = .ref t ∧ H t = some (.tup [.str (S m.name), .str (S m.desc), .ref fl, m.x]) ∧ H fl = some (.tup ((inOrder m.ws).map V.str))
theorem MemAt.ex {H H' : Hp} {v : V} {m : Mem} (h : MemAt H v m) (e : Ex H H') : MemAt H' v m := by
  obtain ⟨t, fl, h1, h2, h3⟩ := h
  exact ⟨t, fl, h1, e _ _ h2, e _ _ h3⟩
theorem KeptAt.exa {H H' : Hp} {v : V} {m : Mem} {D : Addr} {l : List V} (hD : H D = some (.lst l)) (e : Exa D H H') (h : KeptAt H v m) : KeptAt H' v m := by
  obtain ⟨t, fl, h1, h2, h3⟩ := h
  have n1 : t ≠ D := fun z => by rw [z, hD] at h2; cases h2
  have n2 : fl ≠ D := fun z => by rw [z, hD] at h3; cases h3
  exact ⟨t, fl, h1, e _ _ n1 h2, e _ _ n2 h3⟩
theorem KeptAt.ex {H H' : Hp} {v : V} {m : Mem} (h : KeptAt H v m) (e : Ex H H') : KeptAt H' v m := by
  obtain ⟨t, fl, h1, h2, h3⟩ := h
  exact ⟨t, fl, h1, e _ _ h2, e _ _ h3⟩
/-- rows of members -/
inductive Mems (R : V → Mem → Prop) : List V → List Mem → Prop where
  | nil : Mems R [] []
  | cons {v : V} {m : Mem} {vs : List V} {ms : List Mem} : R v m → Mems R vs ms → Mems R (v :: vs) (m :: ms)
theorem Mems.imp {R R' : V → Mem → Prop} {vs : List V} {ms : List Mem} (h : Mems R vs ms) (f : ∀ v m, R v m → R' v m) : Mems R' vs ms := by
  induction h with
  | nil => exact .nil
  | cons h1 _ ih => exact .cons (f _ _ h1) ih
theorem Mems.len {R : V → Mem → Prop} {vs : List V} {ms : List Mem} (h : Mems R vs ms) : vs.length = ms.length := by
  induction h with
  | nil => rfl
  | cons _ _ ih => exact congrArg Nat.succ ih
theorem Mems.get {R : V → Mem → Prop} {vs : List V} {ms : List Mem} (h : Mems R vs ms) {v : V} (hv : v ∈ vs) : ∃ m ∈ ms, R v m := by
  induction h with
  | nil => cases hv
  | cons h1 _ ih =>
    rcases List.mem_cons.mp hv with e | e
    · exact ⟨_, List.mem_cons_self, e ▸ h1⟩
    · obtain ⟨m, hm, r⟩ := ih e
      exact ⟨m, List.mem_cons_of_mem _ hm, r⟩
theorem Mems.map {R R' : V → Mem → Prop} : ∀ {vs ys : List V} {ms : List Mem}, Mems R vs ms → ys.length = vs.length → (∀ (i : Nat) x y, vs[i]? = some x → ys[i]? = some y → ∀ m, R x m → R' y m) → Mems R' ys ms
  | [], [], _, .nil, _, _ => .nil
  | [], _ :: _, _, _, hl, _ => by cases hl
  | _ :: _, [], _, _, hl, _ => by cases hl
  | x :: vs, y :: ys, _, .cons h1 h2, hl, f => .cons (f 0 x y rfl rfl _ h1) (Mems.map h2 (Nat.succ.inj hl) fun i x' y' hx hy m hm => f (i + 1) x' y' (by simpa using hx) (by simpa using hy) m hm)
end N8

set_option autoImplicit false
namespace N8
open PySem PySem.Spec PyProof.Rows L2 Evl
open SX (S)
def cl (K : PySem.W.Frag) (x : Str) : Addr := He.ga K x
/-- a method may be called so -/
def isMName (l : List Nat) : Bool := isNameL l || inV (.str (S l)) [.str "<init>", .str "<clinit>"]
def spMName : Sp := fun vs H Q _ => ∃ l, vs = [.str (S l)] ∧ l.length ≤ 20000 ∧ ∀ H', Ex H H' → Q (.bl (isMName l)) H'
def spMDesc : Sp := fun vs H Q _ => ∃ l ps, vs = [.str (S l)] ∧ l.length ≤ 10000 ∧ partsL l = some ps ∧ ∀ H', Ex H H' → Q (.bl true) H'
/-- a field as it may be -/
structure FieldOk (m : Mem) : Prop where
  n : isNameL m.name = true
  nl : m.name.length ≤ 20000
  d : isFieldL m.desc = true
  dl : m.desc.length ≤ 10000
  f : Flags m.ws
  c : ConstOk m.x
def spIsField : Sp := fun vs H Q _ => ∃ v m, vs = [v] ∧ MemAt H v m ∧ FieldOk m ∧ ∀ H', Ex H H' → Q (.bl true) H'
/-- what a method has: a Code, an Uncut, none -/
def CodeV (K : PySem.W.Frag) (H : Hp) (x : V) : Prop := x = .non ∨ (∃ a dx fs, x = .ref a ∧ H a = some (.ins (cl K "Code") dx fs)) ∨ ∃ a dx fs, x = .ref a ∧ H a = some (.ins (cl K "Uncut") dx fs)
theorem CodeV.ex {K : PySem.W.Frag} {H H' : Hp} {x : V} (h : CodeV K H x) (e : Ex H H') : CodeV K H' x := by
  rcases h with h | ⟨a, dx, fs, h1, h2⟩ | ⟨a, dx, fs, h1, h2⟩
  · exact .inl h
  · exact .inr (.inl ⟨a, dx, fs, h1, e _ _ h2⟩)
  · exact .inr (.inr ⟨a, dx, fs, h1, e _ _ h2⟩)
structure MethOk (m : Mem) : Prop where
  n : isMName m.name = true
  nl : m.name.length ≤ 20000
  d : ∃ ps, partsL m.desc = some ps
  dl : m.desc.length ≤ 10000
  f : Flags m.ws
def spIsMethod (K : PySem.W.Frag) : Sp := fun vs H Q _ => ∃ v m, vs = [v] ∧ MemAt H v m ∧ MethOk m ∧ CodeV K H m.x ∧ ∀ H', Ex H H' → Q (.bl true) H'
/-- Code and Uncut, as isinstance asks them -/
structure CU (K : PySem.W.Frag) (mg : Str → Option Value) : Prop where
  gC : mg "Code" = some (.ref (cl K "Code"))
  gU : mg "Uncut" = some (.ref (cl K "Uncut"))
  iC : C8.InsC K (cl K "Code")
  iU : C8.InsC K (cl K "Uncut")
  no : PySem.W.kitOne K (.ref (cl K "Uncut")) (.ref (cl K "Code")) = some false
section
variable {K : PySem.W.Frag} {σ : L2.St} {H H' : Hp} {te : TE}
theorem ev_isC {a dx C D : Addr} {fs : List (Str × V)} {b : Bool} (h : Ev te σ H (.ref a)) (ha : H a = some (.ins C dx fs)) (c : C8.InsC K C) (k : PySem.W.kitOne K (.ref C) (.ref D) = some b) : Ev (tCB (rIsi K) (tCons te (tCons (tC (.ref D)) tNil))) σ H (.bl b) := fun H1 e Q q =>
  h H1 e _ fun H2 e2 => ⟨.ref a, .ref D, .ref C, .ref D, b, rfl, .own D, .base (TyOf.ins ((e.trans e2) _ _ ha) c.cl c.ha c.hn c.htk c.hm), k, q H2 e2⟩
theorem tup4 {t : Addr} {a b c d : V} (h : H t = some (.tup [a, b, c, d])) {i j k l : Nat} {Q : L2.St → Hp → Prop} (q : Q ((((σ.set i (some a)).set j (some b)).set k (some c)).set l (some d)) H) :
    gTup K 4 (gCons (gName i) (gCons (gName j) (gCons (gName k) (gCons (gName l) gNil)))) (.ref t) σ H Q := ⟨t, _, rfl, st_of h, rfl, _, _, rfl, _, _, rfl, _, _, rfl, _, _, rfl, rfl, q⟩
end
section
variable {P : Program} {w : World} {K : PySem.W.Frag} {mg : Str → Option Value} {base : Heap}
theorem ok_isMName {f : Addr} {fd : FuncData} (F : FnP K "is_method_name" sIsMethodName f fd) (B : Bt mg) (c_is_name : Cl P w K mg base L2.CX0 2 "is_name" ["thing"] (spName K isNameL)) : FnOk P w K mg base L2.CX0 3 f fd ["thing"] spMName := by
  refine F.ok scIsMethodName (fun vs H Q E h => ?_) (fun cdv A outer s H vs Q E hr h => ?_)
  · obtain ⟨l, rfl, _⟩ := h
    rfl
  · obtain ⟨l, rfl, hl, q⟩ := h
    refine ⟨_, PSs.nox (pss_one (ps_ret (pe_or (pe_cl c_is_name hr (by decide) (by rfl) (pa_cons (pv 0) pa_nil)) (pe_one (pe_cmpR op_in_seq (pv 0) (pe_tup (pa_cons pe_str (pa_cons pe_str pa_nil))) rfl))))), ?_⟩
    exact s_ret (ev_orV (a := isNameL l) (ev_call (ea_cons (ev_var rfl) ea_nil) fun H1 e Q' q' E' => ⟨_, _, rfl, .inl ⟨l, rfl, hl, rfl⟩, fun H' e' => q' H' e'⟩) fun _ => ev_inU (ev_var rfl) (eu_tup (ea_cons ev_c (ea_cons ev_c ea_nil)) (by show 2 ≤ 100000; decide)) rfl rfl) q
theorem ok_isMDesc {f : Addr} {fd : FuncData} (F : FnP K "is_method_descriptor" sIsMethodDescriptor f fd) (B : Bt mg) (c_method_parts : Cl P w K mg base L2.CX0 6 "_method_parts" ["thing"] (spParts K)) : FnOk P w K mg base L2.CX0 7 f fd ["thing"] spMDesc := by
  refine F.ok scIsMethodDescriptor (fun vs H Q E h => ?_) (fun cdv A outer s H vs Q E hr h => ?_)
  · obtain ⟨l, ps, rfl, _⟩ := h
    rfl
  · obtain ⟨l, ps, rfl, hl, hp, q⟩ := h
    refine ⟨_, PSs.nox (pss_one (ps_ret (pe_cmpR op_notN (pe_cl c_method_parts hr (by decide) (by rfl) (pa_cons (pv 0) pa_nil)) pe_non (nomark _)))), ?_⟩
    refine s_ret (v := .bl true) (fun H1 e Q' q' => ?_) q
    refine ⟨.str (S l), rfl, ⟨.str (S l), partsL l, rfl, .inl ⟨l, rfl, by omega, rfl⟩, ?_⟩⟩
    rw [hp]
    exact fun r H2 hr e2 h2 => ⟨rfl, q' H2 e2⟩
theorem ok_isField2 {f : Addr} {fd : FuncData} (F : FnP K "_is_field" sIsField f fd) (B : Bt mg) (c_is_name : Cl P w K mg base L2.CX0 2 "is_name" ["thing"] (spName K isNameL)) (c_is_field_descriptor : Cl P w K mg base L2.CX0 5 "is_field_descriptor" ["thing"] (spName K isFieldL))
    (c_is_row_of_flags : Cl P w K mg base L2.CX0 2 "_is_row_of_flags" ["thing"] spFlags) (c_is_constant : Cl P w K mg base L2.CX0 4 "_is_constant" ["thing"] spConst) : FnOk P w K mg base L2.CX0 6 f fd ["member"] spIsField := by
  refine F.ok scIsField (fun vs H Q E h => ?_) (fun cdv A outer s H vs Q E hr h => ?_)
  · obtain ⟨v, m, rfl, _⟩ := h
    rfl
  · obtain ⟨v, m, rfl, ⟨t, fl, rfl, ht, hfl⟩, ok, q⟩ := h
    refine ⟨_, PSs.nox (pss_cons (ps_asg (pv 0) (pg_tup rfl (pgs_cons (pg_name (i := 1) scIsField.nd rfl (.inl rfl)) (pgs_cons (pg_name (i := 2) scIsField.nd rfl (.inl rfl)) (pgs_cons (pg_name (i := 3) scIsField.nd rfl (.inl rfl)) (pgs_cons (pg_name (i := 4) scIsField.nd rfl (.inl rfl)) pgs_nil))))))
      (pss_one (ps_ret (pe_and (pe_cl c_is_name hr (by decide) (by rfl) (pa_cons (pv 1) pa_nil)) (pe_and (pe_cl c_is_field_descriptor hr (by decide) (by rfl) (pa_cons (pv 2) pa_nil)) (pe_and (pe_cl c_is_row_of_flags hr (by decide) (by rfl) (pa_cons (pv 3) pa_nil)) (pe_one (pe_cl c_is_constant hr (by decide) (by rfl) (pa_cons (pv 4) pa_nil))))))))), ?_⟩
    refine ⟨.ref t, rfl, tup4 ht ?_⟩
    refine s_ret (ev_is (ev_andV (a := true) (b := true) (ev_is (ev_call (ea_cons (ev_var rfl) ea_nil) fun H1 e Q' q' E' => ⟨_, _, rfl, .inl ⟨m.name, rfl, ok.nl, rfl⟩, fun H' e' => q' H' e'⟩) (by rw [ok.n])) fun _ => ev_is (ev_andV (a := true) (b := true) (ev_is (ev_call (ea_cons (ev_var rfl) ea_nil) fun H1 e Q' q' E' => ⟨_, _, rfl, .inl ⟨m.desc, rfl, by have := ok.dl; omega, rfl⟩, fun H' e' => q' H' e'⟩) (by rw [ok.d])) fun _ =>
      ev_is (ev_andV (a := true) (b := true) (ev_call (ea_cons (ev_var rfl) ea_nil) fun H1 e Q' q' E' => ⟨fl, m.ws, rfl, e _ _ hfl, ok.f, q'⟩) fun _ => ev_call (ea_cons (ev_var rfl) ea_nil) fun H1 e Q' q' E' => ⟨m.x, rfl, ok.c, q'⟩) rfl) rfl) rfl) q
theorem ok_isMethod {f : Addr} {fd : FuncData} (F : FnP K "_is_method" sIsMethod f fd) (B : Bt mg) (cu : CU K mg) (c_is_method_name : Cl P w K mg base L2.CX0 3 "is_method_name" ["thing"] spMName) (c_is_method_descriptor : Cl P w K mg base L2.CX0 7 "is_method_descriptor" ["thing"] spMDesc)
    (c_is_row_of_flags : Cl P w K mg base L2.CX0 2 "_is_row_of_flags" ["thing"] spFlags) : FnOk P w K mg base L2.CX0 8 f fd ["member"] (spIsMethod K) := by
  have g_Code := cu.gC
  have g_Uncut := cu.gU
  refine F.ok scIsMethod (fun vs H Q E h => ?_) (fun cdv A outer s H vs Q E hr h => ?_)
  · obtain ⟨v, m, rfl, _⟩ := h
    rfl
  · obtain ⟨v, m, rfl, ⟨t, fl, rfl, ht, hfl⟩, ok, hc, q⟩ := h
    obtain ⟨ps, hps⟩ := ok.d
    refine ⟨_, PSs.nox (pss_cons (ps_asg (pv 0) (pg_tup rfl (pgs_cons (pg_name (i := 1) scIsMethod.nd rfl (.inl rfl)) (pgs_cons (pg_name (i := 2) scIsMethod.nd rfl (.inl rfl)) (pgs_cons (pg_name (i := 3) scIsMethod.nd rfl (.inl rfl)) (pgs_cons (pg_name (i := 4) scIsMethod.nd rfl (.inl rfl)) pgs_nil))))))
      (pss_cons (ps_if (PW.pt (pw_or (pt_not (pt_val (pe_cl c_is_method_name hr (by decide) (by rfl) (pa_cons (pv 1) pa_nil)))) (pw_or (pt_not (pt_val (pe_cl c_is_method_descriptor hr (by decide) (by rfl) (pa_cons (pv 2) pa_nil)))) (pw_or1 (pt_not (pt_val (pe_cl c_is_row_of_flags hr (by decide) (by rfl) (pa_cons (pv 3) pa_nil)))))))) (pss_one (ps_ret pe_bl)) pss_nil)
      (pss_one (ps_ret (pe_or (pe_cmpR op_isN (pv 4) pe_non (nomark _)) (pe_or (pe_callB call_isi (by rfl) B.isi (by decide +kernel) (pa_cons (pv 4) (pa_cons (pe_glob (v := .ref (cl K "Code")) (by rfl) g_Code rfl) pa_nil))) (pe_one (pe_callB call_isi (by rfl) B.isi (by decide +kernel) (pa_cons (pv 4) (pa_cons (pe_glob (v := .ref (cl K "Uncut")) (by rfl) g_Uncut rfl) pa_nil)))))))))), ?_⟩
    refine ⟨.ref t, rfl, tup4 ht ?_⟩
    refine q_when (b := false) (et_is (et_or (a := false) (b := false) (et_is (et_not (et_test (ev_is (ev_call (ea_cons (ev_var rfl) ea_nil) fun H1 e Q' q' E' => ⟨m.name, rfl, ok.nl, q'⟩) (by rw [ok.n])))) rfl) fun _ => et_is (et_or (a := false) (b := false) (et_is (et_not (et_test (ev_call (ea_cons (ev_var rfl) ea_nil) fun H1 e Q' q' E' => ⟨m.desc, ps, rfl, ok.dl, hps, q'⟩))) rfl) fun _ =>
      et_is (et_not (et_test (ev_call (ea_cons (ev_var rfl) ea_nil) fun H1 e Q' q' E' => ⟨fl, m.ws, rfl, e _ _ hfl, ok.f, q'⟩))) rfl) rfl) rfl) (fun e => by cases e) fun _ H1 x1 => ?_
    rcases hc with hx | ⟨a, dx, fs, hx, ha⟩ | ⟨a, dx, fs, hx, ha⟩
    · exact s_ret (ev_is (ev_orV (a := true) (b := true) (fun H2 e Q' q' => ⟨m.x, rfl, rfl, by rw [hx]; exact q' H2 (Ex.refl H2)⟩) fun e => by cases e) rfl) fun H2 x2 => q H2 (x1.trans x2)
    · exact s_ret (ev_is (ev_orV (a := false) (b := true) (fun H2 e Q' q' => ⟨m.x, rfl, rfl, by rw [hx]; exact q' H2 (Ex.refl H2)⟩) fun _ => ev_is (ev_orV (a := true) (b := true) (ev_isC (a := a) (ev_is (ev_var rfl) hx) (x1 _ _ ha) cu.iC cu.iC.me) fun e => by cases e) rfl) rfl) fun H2 x2 => q H2 (x1.trans x2)
    · exact s_ret (ev_is (ev_orV (a := false) (b := true) (fun H2 e Q' q' => ⟨m.x, rfl, rfl, by rw [hx]; exact q' H2 (Ex.refl H2)⟩) fun _ => ev_is (ev_orV (a := false) (b := true) (ev_isC (a := a) (ev_is (ev_var rfl) hx) (x1 _ _ ha) cu.iU cu.no) fun _ => ev_isC (a := a) (ev_is (ev_var rfl) hx) (x1 _ _ ha) cu.iU cu.iU.me) rfl) rfl) fun H2 x2 => q H2 (x1.trans x2)
end
end N8

set_option maxHeartbeats 1000000
set_option autoImplicit false
namespace N8
open PySem PySem.Spec PyProof.Rows L2 Evl
open SX (S)
section
variable {K : PySem.W.Frag} {σ : L2.St} {H H' : Hp} {te ta tb tl : TE} {t : TT} {r : R2} {v x : V} {D : Ends} {tz tu : TS} {Q : VK}
/-- for i, x in enumerate(xs) -/
theorem for_enumX {a : Addr} {xs : List V} {g : TG} (Pv : Nat → L2.St → Hp → Prop) (h0 : Pv 0 σ H) (hl : ∀ i σ H, Pv i σ H → SqL K H a xs)
    (hs : ∀ i x σ H T, xs[i]? = some x → Pv i σ H → H T = none → g (.ref T) σ (upd H T (.tup [.int (i : Nat), x])) fun σ2 H2 => tu { D with nx := Pv (i + 1), ct := Pv (i + 1), bk := D.nx } σ2 H2) (hd : ∀ σ H, Pv xs.length σ H → D.nx σ H) :
    ∃ W : Nat → Nat → L2.St → Hp → Prop, (∃ m, W 0 m σ H) ∧ ∀ i m σ H, W i m σ H → ((Ite K a).stop i H ∧ D.nx σ H) ∨ ((Ite K a).go i H ∧ ∃ N : L2.St → Hp → Prop, (∀ σ' H', N σ' H' → ∃ m', m' < m ∧ W (i + 1) m' σ' H') ∧ ∀ x H', (Ite K a).yld i H x H' → g x σ H' fun σ2 H2 => tu { D with nx := N, ct := N, bk := D.nx } σ2 H2) := by
  refine ⟨fun i m σ H => m = xs.length - i ∧ i ≤ xs.length ∧ Pv i σ H, ⟨_, rfl, Nat.zero_le _, h0⟩, fun i m σ H hW => ?_⟩
  obtain ⟨em, hi, p⟩ := hW
  have q := hl i σ H p
  by_cases hlt : i < xs.length
  · refine .inr ⟨⟨xs, xs[i], q, List.getElem?_eq_getElem hlt⟩, Pv (i + 1), fun σ' H' p' => ⟨xs.length - (i + 1), by omega, rfl, hlt, p'⟩, fun v H' y => ?_⟩
    obtain ⟨T, x, e1, e2, e3, e4⟩ := y
    subst e1 e3
    exact hs i x σ H T (e4 xs q) p e2
  · obtain rfl : i = xs.length := by omega
    exact .inl ⟨⟨xs, q, Nat.le_refl _⟩, hd σ H p⟩
theorem rd_ret (h : te σ H D.rt) : tRet te D σ H := h
theorem rd_cb {r : List V → Hp → VK → Prop} {ta : TA} (h : ta σ H fun vs H1 => r vs H1 Q) : tCB r ta σ H Q := h
theorem rd_cons {QL : List V → Hp → Prop} {ta : TA} (h : te σ H fun x H1 => ta σ H1 fun xs H2 => QL (x :: xs) H2) : tCons te ta σ H QL := h
theorem rd_tup {ta : TA} (h : ta σ H fun xs H1 => xs.length ≤ sizeLine ∧ ∀ p, H1 p = none → Q (.ref p) (upd H1 p (.tup xs))) : tTup ta σ H Q := h
theorem rd_ev (h : Ev te σ H v) (k : ∀ H1, Ex H H1 → Q v H1) : te σ H Q := h H (Ex.refl H) Q k
theorem rd_call {sp : Sp} {ta : TA} (h : ta σ H fun vs H1 => sp (vs ++ []) H1 Q L2.E0) : tCall sp [] L2.E0 ta σ H Q := h
theorem rd_nil {QL : List V → Hp → Prop} (h : QL [] H) : tNil σ H QL := h
abbrev rTupOf (K : PySem.W.Frag) : List V → Hp → VK → Prop := fun xs H Q => ∃ p ys, xs = [.ref p] ∧ ((SqL K H p ys ∧ ∀ l, H l = none → Q (.ref l) (upd H l (.tup ys))) ∨ (SqT K H p ys ∧ Q (.ref p) H))
/-- tuple(xs), xs a list -/
theorem eu_tupleV {p : Addr} {xs : List V} (h : Ev te σ H (.ref p)) (hp : H p = some (.lst xs)) : EvU (tCB (rTupOf K) (tCons te tNil)) σ H xs := fun H1 e Q q =>
  h H1 e _ fun H2 e2 => ⟨p, xs, rfl, .inl ⟨sq_of ((e.trans e2) _ _ hp), fun l hl => q l _ (fresh_back e2 hl) (e2.trans (Ex.new hl)) upd_same⟩⟩
end
/-- interfaces as they may be -/
def FacesOk (fs : List (List Nat)) : Prop := ∀ l ∈ fs, isClassL l = true ∧ l.length ≤ 20000
def spFaces : Sp := fun vs H Q _ => ∃ (p : Addr) (fs : List (List Nat)), vs = [.ref p] ∧ H p = some (.lst (fs.map N8.vs)) ∧ FacesOk fs ∧ ∀ q H', H q = none → Ex H H' → H' q = some (.tup (fs.map N8.vs)) → Q (.ref q) H'
def spKept (K : PySem.W.Frag) (fF fM : Addr) : Sp := fun vs H Q _ => ∃ (p f : Addr) (z : Str) (xs : List V) (ms : List Mem), vs = [.ref p, .str z, .ref f] ∧ H p = some (.lst xs) ∧ xs.length ≤ 1000 ∧ Mems (MemAt H) xs ms ∧
  ((f = fF ∧ ∀ m ∈ ms, FieldOk m) ∨ (f = fM ∧ f ≠ fF ∧ ∀ m ∈ ms, MethOk m ∧ CodeV K H m.x)) ∧ ∀ q ys H', H q = none → Ex H H' → H' q = some (.tup ys) → Mems (KeptAt H') ys ms → Q (.ref q) H'
/-- what a parameter that holds a def promises -/
def memS (K : PySem.W.Frag) (fF fM : Addr) : Addr → Option Sp := fun f => if f = fF then some spIsField else if f = fM then some (spIsMethod K) else none
section
variable {P : Program} {w : World} {K : PySem.W.Frag} {mg : Str → Option Value} {base : Heap}
theorem ok_keptInterfaces {f : Addr} {fd : FuncData} (F : FnP K "_kept_interfaces" sKeptInterfaces f fd) (B : Bt mg) (c_is_row : Cl P w K mg base L2.CX0 1 "is_row" ["thing"] (spRow K)) (c_is_class_name : Cl P w K mg base L2.CX0 3 "is_class_name" ["thing"] (spName K isClassL)) :
    FnOk P w K mg base L2.CX0 4 f fd ["interfaces"] spFaces := by
  refine F.ok scKeptInterfaces (fun vs H Q E h => ?_) (fun cdv A outer s H vs Q E hr h => ?_)
  · obtain ⟨p, fs, rfl, _⟩ := h
    rfl
  · obtain ⟨p, fs, rfl, hp, ok, q⟩ := h
    refine ⟨_, PSs.nox (pss_cons (ps_if (pt_not (pt_val (pe_cl c_is_row hr (by decide) (by rfl) (pa_cons (pv 0) pa_nil)))) (pss_one ps_never) pss_nil)
      (pss_cons (ps_for PassesOwn.never rfl (pi_enum (by rfl) B.enumerate (pa_cons (pv 0) pa_nil)) (pg_tup rfl (pgs_cons (pg_name (i := 1) scKeptInterfaces.nd rfl (.inl rfl)) (pgs_cons (pg_name (i := 2) scKeptInterfaces.nd rfl (.inl rfl)) pgs_nil))) (pss_one (ps_if (pt_not (pt_val (pe_cl c_is_class_name hr (by decide) (by rfl) (pa_cons (pv 2) pa_nil)))) (pss_one ps_never) pss_nil)))
      (pss_one (ps_ret (pe_callTy call_tuple_of (by rfl) B.tuple (by decide +kernel) (pa_cons (pv 0) pa_nil)))))), ?_⟩
    refine q_when (b := false) (et_is (et_not (et_test (ev_call (ea_cons (ev_var rfl) ea_nil) fun H1 e Q' q' E' => ⟨p, _, rfl, .inl (e _ _ hp), q'⟩))) rfl) (fun e => by cases e) fun _ H1 x1 => ?_
    refine ⟨.ref p, rfl, p, _, rfl, sq_of (x1 _ _ hp), ?_⟩
    refine for_enumX (xs := fs.map N8.vs) (fun i σ' H' => Ex H1 H' ∧ ∃ v1 v2, σ' = [some (.ref p), v1, v2]) ⟨Ex.refl _, none, none, rfl⟩ (fun i σ' H' hP => ex_l (x1.trans hP.1) (sq_of hp)) (fun i x σ' H' T hx hP hT => ?_) (fun σ' H' hP => ?_)
    · obtain ⟨e, v1, v2, rfl⟩ := hP
      obtain ⟨l, hl, rfl⟩ := List.mem_map.mp (List.mem_of_getElem? hx)
      refine ⟨T, _, rfl, st_of upd_same, rfl, .int (i : Nat), [N8.vs l], rfl, N8.vs l, [], rfl, rfl, ?_⟩
      exact s_when (b := false) (et_is (et_not (et_test (ev_is (ev_call (ea_cons (ev_var rfl) ea_nil) fun H2 e2 Q' q' E' => ⟨_, _, rfl, .inl ⟨l, rfl, (ok l hl).2, rfl⟩, fun H3 e3 => q' H3 e3⟩) (by rw [(ok l hl).1])))) rfl) (fun e => by cases e) fun _ H3 x3 => ⟨(e.trans (Ex.new hT)).trans x3, _, _, rfl⟩
    · obtain ⟨e, v1, v2, rfl⟩ := hP
      exact s_retU (eu_tupleV (ev_var rfl) ((x1.trans e) _ _ hp)) fun r H3 hr x3 h3 => q r H3 (fresh_back (x1.trans e) hr) ((x1.trans e).trans x3) h3
theorem ok_keptMembers {f fF fM : Addr} {fd : FuncData} (F : FnP K "_kept_members" sKeptMembers f fd) (B : Bt mg) (hHeld : ∀ f sp, memS K fF fM f = some sp → Held P w K mg base 8 f sp)
    (c_is_row : Cl P w K mg base L2.CX0 1 "is_row" ["thing"] (spRow K)) (c_is_tuple_of : Cl P w K mg base L2.CX0 1 "is_tuple_of" ["thing", "many"] (spTupOf K)) (c_in_order : Cl P w K mg base L2.CX0 1 "_in_order" ["flags"] spInOrder) :
    FnOk P w K mg base L2.CX0 9 f fd ["members", "word", "is_member"] (spKept K fF fM) := by
  refine F.ok scKeptMembers (fun vs H Q E h => ?_) (fun cdv A outer s H vs Q E hr h => ?_)
  · obtain ⟨p, f, z, xs, ms, rfl, _⟩ := h
    rfl
  · obtain ⟨p, fm, z, xs, ms, rfl, hp, hlen, hM, hf, q⟩ := h
    refine ⟨_, PSs.nox (pss_cons (ps_if (pt_not (pt_val (pe_cl c_is_row hr (by decide) (by rfl) (pa_cons (pv 0) pa_nil)))) (pss_one ps_never) pss_nil)
      (pss_cons (ps_for PassesOwn.never rfl (pi_enum (by rfl) B.enumerate (pa_cons (pv 0) pa_nil)) (pg_tup rfl (pgs_cons (pg_name (i := 3) scKeptMembers.nd rfl (.inl rfl)) (pgs_cons (pg_name (i := 4) scKeptMembers.nd rfl (.inl rfl)) pgs_nil))) (pss_one (ps_if (PW.pt (pw_or (pt_not (pt_val (pe_cl c_is_tuple_of hr (by decide) (by rfl) (pa_cons (pv 4) (pa_cons pe_int pa_nil))))) (pw_or1 (pt_not (pt_val (pe_callA (i := 2) hHeld (hr.mono (by decide)) rfl (Or.inl rfl) (pa_cons (pv 4) pa_nil))))))) (pss_one ps_never) pss_nil)))
      (pss_one (ps_ret (pe_callTy call_tuple_of (by rfl) B.tuple (by decide +kernel) (pa_cons (pe_lc (own := [("name", 5), ("descriptor", 6), ("flags", 7), ("worth", 8)]) (g := gTup K 4 (gCons (gName 5) (gCons (gName 6) (gCons (gName 7) (gCons (gName 8) gNil))))) (tt := tYes) rfl scKeptMembers.nd (pi_list (pv 0)) (blkOk_by (N := ["members", "word", "is_member", "number", "member", "name", "descriptor", "flags", "worth"]) (sc := L2.defScope sKeptMembers) (by decide +kernel)) (fun _ _ _ _ _ => (pg_tup rfl (pgs_cons (pg_name (i := 5) scKeptMembers.nd rfl (.inl rfl)) (pgs_cons (pg_name (i := 6) scKeptMembers.nd rfl (.inl rfl)) (pgs_cons (pg_name (i := 7) scKeptMembers.nd rfl (.inl rfl)) (pgs_cons (pg_name (i := 8) scKeptMembers.nd rfl (.inl rfl)) pgs_nil)))))) (fun _ _ _ _ _ => pts_nil) (fun _ _ _ _ _ => (pe_tup (pa_cons (pv 5) (pa_cons (pv 6) (pa_cons (pe_cl c_in_order hr (by decide) (by rfl) (pa_cons (pv 7) pa_nil)) (pa_cons (pv 8) pa_nil))))))) pa_nil)))))), ?_⟩
    refine q_when (b := false) (et_is (et_not (et_test (ev_call (ea_cons (ev_var rfl) ea_nil) fun H1 e Q' q' E' => ⟨p, _, rfl, .inl (e _ _ hp), q'⟩))) rfl) (fun e => by cases e) fun _ H1 x1 => ?_
    refine ⟨.ref p, rfl, p, _, rfl, sq_of (x1 _ _ hp), ?_⟩
    refine for_enumX (xs := xs) (fun i σ' H' => Ex H1 H' ∧ ∃ v3 v4 v5 v6 v7 v8, σ' = [some (.ref p), some (.str z), some (.ref fm), v3, v4, v5, v6, v7, v8]) ⟨Ex.refl _, none, none, none, none, none, none, rfl⟩ (fun i σ' H' hP => ex_l (x1.trans hP.1) (sq_of hp)) (fun i x σ' H' T hx hP hT => ?_) (fun σ' H' hP => ?_)
    · obtain ⟨e, v3, v4, v5, v6, v7, v8, rfl⟩ := hP
      obtain ⟨m, hm, hmem⟩ := hM.get (List.mem_of_getElem? hx)
      have eT : Ex H (upd H' T (.tup [.int (i : Nat), x])) := (x1.trans e).trans (Ex.new hT)
      have hmem2 := hmem.ex eT
      refine ⟨T, _, rfl, st_of upd_same, rfl, .int (i : Nat), [x], rfl, x, [], rfl, rfl, ?_⟩
      have hmem3 := hmem2
      obtain ⟨t, fl, rfl, ht, hfl⟩ := hmem3
      refine s_when (b := false) (et_is (et_or (a := false) (b := false) (et_is (et_not (et_test (ev_call (ea_cons (ev_var rfl) (ea_cons ev_c ea_nil)) fun H2 e2 Q' q' E' => ⟨t, _, rfl, e2 _ _ ht, by show 4 ≤ 1000; decide, q'⟩))) rfl) fun _ => et_is (et_not (et_test (b := true) fun H2 e2 Q' q' => ?_)) rfl) rfl) (fun e => by cases e) fun _ H3 x3 => ⟨(e.trans (Ex.new hT)).trans x3, _, _, _, _, _, _, rfl⟩
      rcases hf with ⟨rfl, ok⟩ | ⟨rfl, hne, ok⟩
      · refine ⟨_, spIsField, rfl, by unfold memS; rw [if_pos rfl], ?_⟩
        exact ea_cons (ev_var rfl) ea_nil H2 (Ex.refl H2) _ fun H3 e3 => ⟨_, m, rfl, hmem2.ex (e2.trans e3), ok m hm, fun H4 e4 => q' H4 (e3.trans e4)⟩
      · refine ⟨_, spIsMethod K, rfl, by unfold memS; rw [if_neg hne, if_pos rfl], ?_⟩
        exact ea_cons (ev_var rfl) ea_nil H2 (Ex.refl H2) _ fun H3 e3 => ⟨_, m, rfl, hmem2.ex (e2.trans e3), (ok m hm).1, (ok m hm).2.ex ((eT.trans e2).trans e3), fun H4 e4 => q' H4 (e3.trans e4)⟩
    · obtain ⟨e, v3, v4, v5, v6, v7, v8, rfl⟩ := hP
      have e0 := x1.trans e
      dsimp only
      refine rd_ret (rd_cb (rd_cons (lc_each (K := K) (tl := tVar 0) (vs := [5, 6, 7, 8]) (g := gTup K 4 (gCons (gName 5) (gCons (gName 6) (gCons (gName 7) (gCons (gName 8) gNil))))) (H := H') (σ := [some (.ref p), some (.str z), some (.ref fm), v3, v4, v5, v6, v7, v8]) (xs := xs) (fun x y H2 => ∀ m, MemAt H x m → KeptAt H2 y m) (fun hD xa hP m hm => (hP m hm).exa hD xa) (ev_var rfl) (sq_of (e0 _ _ hp)) (by omega) (fun x H2 hx e2 Q' hQ => ?_) (fun Dl ys H2 hD e2 h2 hE => ?_))))
      · obtain ⟨m, hm, hmem⟩ := hM.get hx
        obtain ⟨t, fl, rfl, ht, hfl⟩ := hmem
        refine tup4 ((e0.trans e2) _ _ ht) ⟨rfl, ?_⟩
        refine rd_tup (rd_cons (rd_ev (ev_var rfl) fun H3 e3 => rd_cons (rd_ev (ev_var rfl) fun H4 e4 => rd_cons (rd_call (rd_cons (rd_ev (ev_var rfl) fun H4' e4' => rd_nil ?_))))))
        refine ⟨fl, m.ws, rfl, ((e0.trans e2).trans ((e3.trans e4).trans e4')) _ _ hfl, fun r H5 hr e5 h5 => rd_cons (rd_ev (ev_var rfl) fun H6 e6 => rd_nil ⟨by show 4 ≤ sizeLine; decide, fun u hu => ?_⟩)⟩
        refine hQ (.ref u) _ (((((e3.trans e4).trans e4').trans e5).trans e6).trans (Ex.new hu)) fun m' hm' => ?_
        obtain ⟨t', fl', et', ht', hfl'⟩ := hm'
        cases et'
        have e1 := ht.symm.trans ht'
        simp only [Option.some.injEq, HO.tup.injEq, List.cons.injEq, V.str.injEq, V.ref.injEq] at e1
        obtain ⟨q1, q2, rfl, q4, _⟩ := e1
        have q5 := hfl.symm.trans hfl'
        have q6 : m.ws = m'.ws := by
          have := HO.lst.inj (Option.some.inj q5)
          exact (List.map_inj_right fun _ _ h => V.str.inj h).mp this
        have r6 : r ≠ u := fun z => by rw [← z, e6 _ _ h5] at hu; cases hu
        refine ⟨u, r, rfl, by rw [upd_same, q1, q2, q4], ?_⟩
        rw [upd_ne r6, ← q6]
        exact e6 _ _ h5
      · refine ⟨Dl, ys, rfl, .inl ⟨sq_of h2, fun l hl => ?_⟩⟩
        refine q l ys _ (fresh_back (e0.trans e2) hl) ((e0.trans e2).trans (Ex.new hl)) upd_same ?_
        exact Mems.map (hM.imp fun v m h => h) hE.1 fun i x y hx hy m hm => (hE.2 i x y hx hy m hm).ex (Ex.new hl)
end
end N8

set_option maxHeartbeats 1000000
set_option autoImplicit false
namespace N8
open PySem PySem.Spec PyProof.Rows L2 Evl
open SX (S)
def inCls (s : Stmt) : List Stmt := match s with | .ClassDef (body := rows) .. => rows | _ => []
abbrev sClassFileInit : Stmt := (inCls (topS 55)).getD 0 (.Pass ⟨0, 0, 0, 0⟩)
theorem scClassFileInit : FnScope ["self", "name", "parent", "interfaces", "flags", "fields", "methods"] ["self", "name", "parent", "interfaces", "flags", "fields", "methods"] (L2.defScope sClassFileInit) := ⟨rfl, rfl, rfl, by decide +kernel, rfl, by decide +kernel, by decide +kernel⟩

/-- a class as it is handed in -/
structure CD where
  name : List Nat
  parent : Option (List Nat)
  faces : List (List Nat)
  ws : List Str
  fields : List Mem
  methods : List Mem
def parV : Option (List Nat) → V
  | none => .non
  | some l => N8.vs l
structure CDOk (d : CD) : Prop where
  n : isClassL d.name = true ∧ d.name.length ≤ 20000
  p : ∀ l, d.parent = some l → isClassL l = true ∧ l.length ≤ 20000
  i : FacesOk d.faces
  f : Flags d.ws
  fs : ∀ m ∈ d.fields, FieldOk m
  ms : ∀ m ∈ d.methods, MethOk m
/-- what a ClassFile has -/
def Parts (H : Hp) (fs : List (Str × V)) (d : CD) : Prop := ∃ qi qw qf qm yf ym, List.lookup ("name" : Str) fs = some (N8.vs d.name) ∧ List.lookup ("parent" : Str) fs = some (parV d.parent) ∧ List.lookup ("interfaces" : Str) fs = some (.ref qi) ∧ List.lookup ("flags" : Str) fs = some (.ref qw) ∧
  List.lookup ("fields" : Str) fs = some (.ref qf) ∧ List.lookup ("methods" : Str) fs = some (.ref qm) ∧ H qi = some (.tup (d.faces.map N8.vs)) ∧ H qw = some (.tup ((inOrder d.ws).map V.str)) ∧ H qf = some (.tup yf) ∧ Mems (KeptAt H) yf d.fields ∧ H qm = some (.tup ym) ∧ Mems (KeptAt H) ym d.methods
theorem Parts.ex {H H' : Hp} {fs : List (Str × V)} {d : CD} (h : Parts H fs d) (e : Ex H H') : Parts H' fs d := by
  obtain ⟨qi, qw, qf, qm, yf, ym, h1, h2, h3, h4, h5, h6, h7, h8, h9, h10, h11, h12⟩ := h
  exact ⟨qi, qw, qf, qm, yf, ym, h1, h2, h3, h4, h5, h6, e _ _ h7, e _ _ h8, e _ _ h9, h10.imp fun _ _ k => k.ex e, e _ _ h11, h12.imp fun _ _ k => k.ex e⟩
/-- the ClassFile at a -/
def FileAt (K : PySem.W.Frag) (H : Hp) (a : Addr) (d : CD) : Prop := ∃ dx fs, H a = some (.ins (cl K "ClassFile") dx fs) ∧ Parts H fs d
/-- the six arguments -/
def ArgsAt (K : PySem.W.Frag) (H : Hp) (d : CD) (vs : List V) : Prop := ∃ pi pw pf pm xf xm, vs = [N8.vs d.name, parV d.parent, .ref pi, .ref pw, .ref pf, .ref pm] ∧ H pi = some (.lst (d.faces.map N8.vs)) ∧ H pw = some (.lst (d.ws.map V.str)) ∧ H pf = some (.lst xf) ∧ Mems (MemAt H) xf d.fields ∧ xf.length ≤ 1000 ∧
  H pm = some (.lst xm) ∧ Mems (MemAt H) xm d.methods ∧ xm.length ≤ 1000 ∧ ∀ m ∈ d.methods, CodeV K H m.x
def spCFI (K : PySem.W.Frag) : Sp := fun vs H Q _ => ∃ (a dx : Addr) (d : CD) (us : List V), vs = .ref a :: us ∧ H a = some (.ins (cl K "ClassFile") dx []) ∧ ArgsAt K H d us ∧ CDOk d ∧ ∀ H', Exa a H H' → FileAt K H' a d → Q .non H'
/-- Mems under Exa a: a is no list and no tuple -/
theorem MemAt.exa {a : Addr} {H H' : Hp} {v : V} {m : Mem} {C dx : Addr} {fs : List (Str × V)} (ha : H a = some (.ins C dx fs)) (e : Exa a H H') (h : MemAt H v m) : MemAt H' v m := by
  obtain ⟨t, fl, h1, h2, h3⟩ := h
  exact ⟨t, fl, h1, e _ _ (fun z => by rw [z, ha] at h2; cases h2) h2, e _ _ (fun z => by rw [z, ha] at h3; cases h3) h3⟩
theorem KeptAt.exi {a : Addr} {H H' : Hp} {v : V} {m : Mem} {C dx : Addr} {fs : List (Str × V)} (ha : H a = some (.ins C dx fs)) (e : Exa a H H') (h : KeptAt H v m) : KeptAt H' v m := by
  obtain ⟨t, fl, h1, h2, h3⟩ := h
  exact ⟨t, fl, h1, e _ _ (fun z => by rw [z, ha] at h2; cases h2) h2, e _ _ (fun z => by rw [z, ha] at h3; cases h3) h3⟩
theorem CodeV.exa {K : PySem.W.Frag} {a dx : Addr} {H H' : Hp} {x : V} {fs : List (Str × V)} (ha : H a = some (.ins (cl K "ClassFile") dx fs)) (n1 : cl K "ClassFile" ≠ cl K "Code") (n2 : cl K "ClassFile" ≠ cl K "Uncut") (e : Exa a H H') (h : CodeV K H x) : CodeV K H' x := by
  rcases h with h | ⟨b, dx', fs', h1, h2⟩ | ⟨b, dx', fs', h1, h2⟩
  · exact .inl h
  · exact .inr (.inl ⟨b, dx', fs', h1, e _ _ (fun z => by rw [z, ha] at h2; exact n1 (HO.ins.inj (Option.some.inj h2)).1) h2⟩)
  · exact .inr (.inr ⟨b, dx', fs', h1, e _ _ (fun z => by rw [z, ha] at h2; exact n2 (HO.ins.inj (Option.some.inj h2)).1) h2⟩)
section
variable {K : PySem.W.Frag} {σ : L2.St} {H H' : Hp} {te ta tb tl : TE} {t : TT} {r : R2} {v x : V} {D : Ends} {tz tu : TS} {Q : VK}
/-- self.f = e -/
theorem q_fldV {a C dx : Addr} {fs : List (Str × V)} {f : Str} {y : V} {i : Nat} (c : Cls K C) (no : NoAttr K C f) (hi : σ[i]? = some (some (.ref a))) (h : Ev te σ H y) (ha : H a = some (.ins C dx fs)) (hl : fs.length < 1000)
    (k : ∀ H1, Ex H H1 → H1 a = some (.ins C dx fs) → tz D σ (upd H1 a (.ins C dx (putF f y fs)))) : tSeq (sFld K (tVar i) te f) tz D σ H := h H (Ex.refl H) _ fun H1 e => ⟨.ref a, hi, a, C, dx, fs, rfl, e _ _ ha, c, no, hl, k H1 e (e _ _ ha)⟩
theorem rd_fld {f : Str} {i : Nat} (h : te σ H fun y H1 => tVar i σ H1 fun x H2 => ∃ a C dx fs, x = .ref a ∧ H2 a = some (.ins C dx fs) ∧ Cls K C ∧ NoAttr K C f ∧ fs.length < 1000 ∧ tz D σ (upd H2 a (.ins C dx (putF f y fs)))) : tSeq (sFld K (tVar i) te f) tz D σ H := h
theorem rd_fldL {f : Str} {i : Nat} (h : te σ H fun y H1 => tVar i σ H1 fun x H2 => ∃ a C dx fs, x = .ref a ∧ H2 a = some (.ins C dx fs) ∧ Cls K C ∧ NoAttr K C f ∧ fs.length < 1000 ∧ D.nx σ (upd H2 a (.ins C dx (putF f y fs)))) : sFld K (tVar i) te f D σ H := h
end
/-- ClassFile, as its own methods ask -/
structure CFK (K : PySem.W.Frag) : Prop where
  c : Cls K (cl K "ClassFile")
  no : ∀ f ∈ (["name", "parent", "interfaces", "flags", "fields", "methods"] : List Str), NoAttr K (cl K "ClassFile") f
  n1 : cl K "ClassFile" ≠ cl K "Code"
  n2 : cl K "ClassFile" ≠ cl K "Uncut"
theorem exa_upd {a : Addr} {H : Hp} {o : HO} : Exa a H (upd H a o) := fun b u hb h => by rw [upd_ne hb]; exact h
theorem Exa.trans {a : Addr} {H H1 H2 : Hp} (x : Exa a H H1) (y : Exa a H1 H2) : Exa a H H2 := fun b o n h => y b o n (x b o n h)
section
variable {P : Program} {w : World} {K : PySem.W.Frag} {mg : Str → Option Value} {base : Heap}
theorem ok_classFile {f a_is_field a_is_method : Addr} {fd : FuncData} (F : FunD K "__init__" "ClassFile.__init__" (L2.defArgs sClassFileInit) (L2.defBody sClassFileInit) (L2.defScope sClassFileInit) [] [] f fd) (B : Bt mg) (cf : CFK K) (g_is_field : mg "_is_field" = some (.ref a_is_field)) (g_is_method : mg "_is_method" = some (.ref a_is_method)) (hne : a_is_method ≠ a_is_field)
    (c_is_class_name : Cl P w K mg base L2.CX0 3 "is_class_name" ["thing"] (spName K isClassL)) (c_kept_interfaces : Cl P w K mg base L2.CX0 4 "_kept_interfaces" ["interfaces"] spFaces) (c_is_row_of_flags : Cl P w K mg base L2.CX0 2 "_is_row_of_flags" ["thing"] spFlags)
    (c_in_order : Cl P w K mg base L2.CX0 1 "_in_order" ["flags"] spInOrder) (c_kept_members : Cl P w K mg base L2.CX0 9 "_kept_members" ["members", "word", "is_member"] (spKept K a_is_field a_is_method)) :
    FnOk P w K mg base L2.CX0 10 f fd ["self", "name", "parent", "interfaces", "flags", "fields", "methods"] (spCFI K) := by
  refine F.ok scClassFileInit (fun vs H Q E h => ?_) (fun cdv A outer s H vs Q E hr h => ?_)
  · obtain ⟨a, dx, d, us, rfl, _, ⟨pi, pw, pf, pm, xf, xm, rfl, _⟩, _⟩ := h
    rfl
  · obtain ⟨a, dx, d, us, rfl, ha, ⟨pi, pw, pf, pm, xf, xm, rfl, hpi, hpw, hpf, hxf, lf, hpm, hxm, lm, hcv⟩, ok, q⟩ := h
    refine ⟨_, PSs.nox (pss_cons (ps_if (pt_not (pt_val (pe_cl c_is_class_name hr (by decide) (by rfl) (pa_cons (pv 1) pa_nil)))) (pss_one ps_never) pss_nil)
      (pss_cons (ps_if (PW.pt (pw_and (pt_cmpR op_notN (pv 2) pe_non (nomark _)) (pw_and1 (pt_not (pt_val (pe_cl c_is_class_name hr (by decide) (by rfl) (pa_cons (pv 2) pa_nil))))))) (pss_one ps_never) pss_nil)
      (pss_cons (ps_fld (pv 0) (pv 1) rfl)
      (pss_cons (ps_fld (pv 0) (pv 2) rfl)
      (pss_cons (ps_fld (pv 0) (pe_cl c_kept_interfaces hr (by decide) (by rfl) (pa_cons (pv 3) pa_nil)) rfl)
      (pss_cons (ps_if (pt_not (pt_val (pe_cl c_is_row_of_flags hr (by decide) (by rfl) (pa_cons (pv 4) pa_nil)))) (pss_one ps_never) pss_nil)
      (pss_cons (ps_fld (pv 0) (pe_cl c_in_order hr (by decide) (by rfl) (pa_cons (pv 4) pa_nil)) rfl)
      (pss_cons (ps_fld (pv 0) (pe_cl c_kept_members hr (by decide) (by rfl) (pa_cons (pv 5) (pa_cons pe_str (pa_cons (pe_glob (v := .ref a_is_field) (by rfl) g_is_field rfl) pa_nil)))) rfl)
      (pss_one (ps_fld (pv 0) (pe_cl c_kept_members hr (by decide) (by rfl) (pa_cons (pv 6) (pa_cons pe_str (pa_cons (pe_glob (v := .ref a_is_method) (by rfl) g_is_method rfl) pa_nil)))) rfl)))))))))), ?_⟩
    refine q_when (b := false) (et_is (et_not (et_test (ev_is (ev_call (ea_cons (ev_var rfl) ea_nil) fun H1 e Q' q' E' => ⟨_, _, rfl, .inl ⟨d.name, rfl, ok.n.2, rfl⟩, fun H3 e3 => q' H3 e3⟩) (by rw [ok.n.1])))) rfl) (fun e => by cases e) fun _ H1 x1 => ?_
    refine q_when (b := false) ?_ (fun e => by cases e) fun _ H2 x2 => ?_
    · cases hp : d.parent with
      | none => exact et_is (et_and (a := false) (b := false) (et_test fun H2 e Q' q' => ⟨_, rfl, rfl, q' H2 (Ex.refl H2)⟩) fun e => by cases e) rfl
      | some l => exact et_is (et_and (a := true) (b := false) (et_test fun H2 e Q' q' => ⟨_, rfl, rfl, q' H2 (Ex.refl H2)⟩) fun _ => et_is (et_not (et_test (ev_is (ev_call (ea_cons (ev_var rfl) ea_nil) fun H1 e Q' q' E' => ⟨_, _, rfl, .inl ⟨l, rfl, (ok.p l hp).2, rfl⟩, fun H3 e3 => q' H3 e3⟩) (by rw [(ok.p l hp).1])))) rfl) rfl
    have e2 := x1.trans x2
    refine q_fldV cf.c (cf.no _ (by decide)) rfl (ev_var rfl) (e2 _ _ ha) (by decide) fun H3 x3 h3 => ?_
    have A3 : Exa a H (upd H3 a (.ins (cl K "ClassFile") dx (putF "name" (N8.vs d.name) []))) := (Exa.of (e2.trans x3)).trans exa_upd
    refine q_fldV cf.c (cf.no _ (by decide)) rfl (ev_var rfl) upd_same (Nat.le_of_ble_eq_true rfl) fun H4 x4 h4 => ?_
    have A4 : Exa a H (upd H4 a (.ins (cl K "ClassFile") dx (putF "parent" (parV d.parent) (putF "name" (N8.vs d.name) [])))) := (A3.trans (Exa.of x4)).trans exa_upd
    have nl : ∀ {p : Addr} {xs : List V}, H p = some (.lst xs) → p ≠ a := fun {p xs} h z => by rw [z, ha] at h; cases h
    refine rd_fld (rd_call (rd_cons (rd_ev (ev_var rfl) fun H5 x5 => rd_nil ?_)))
    refine ⟨pi, d.faces, rfl, x5 _ _ (A4 _ _ (nl hpi) hpi), ok.i, fun qi H6 hqi x6 h6 => ⟨.ref a, rfl, a, _, dx, _, rfl, (x5.trans x6) _ _ upd_same, cf.c, cf.no _ (by decide), Nat.le_of_ble_eq_true rfl, ?_⟩⟩
    have A6 : Exa a H H6 := A4.trans (Exa.of (x5.trans x6))
    have h6a : H6 a = some (.ins (cl K "ClassFile") dx (putF "parent" (parV d.parent) (putF "name" (N8.vs d.name) []))) := (x5.trans x6) _ _ upd_same
    have nt : ∀ {p : Addr} {xs : List V} {H' : Hp} {C dx' : Addr} {fs : List (Str × V)}, H' p = some (.tup xs) → H' a = some (.ins C dx' fs) → p ≠ a := fun {p xs H' C dx' fs} h k z => by rw [z, k] at h; cases h
    have hqia := nt h6 h6a
    generalize hH7 : upd H6 a (.ins (cl K "ClassFile") dx (putF "interfaces" (.ref qi) (putF "parent" (parV d.parent) (putF "name" (N8.vs d.name) [])))) = H7
    have h7a : H7 a = some (.ins (cl K "ClassFile") dx (putF "interfaces" (.ref qi) (putF "parent" (parV d.parent) (putF "name" (N8.vs d.name) [])))) := by rw [← hH7]; exact upd_same
    have h7 : H7 qi = some (.tup (d.faces.map N8.vs)) := by rw [← hH7, upd_ne hqia]; exact h6
    have A7 : Exa a H H7 := by rw [← hH7]; exact A6.trans exa_upd
    clear hH7
    refine q_when (b := false) (et_is (et_not (et_test (ev_call (ea_cons (ev_var rfl) ea_nil) fun H1 e Q' q' E' => ⟨pw, d.ws, rfl, e _ _ (A7 _ _ (nl hpw) hpw), ok.f, q'⟩))) rfl) (fun e => by cases e) fun _ H8 x8 => ?_
    refine rd_fld (rd_call (rd_cons (rd_ev (ev_var rfl) fun H9 x9 => rd_nil ?_)))
    refine ⟨pw, d.ws, rfl, (x8.trans x9) _ _ (A7 _ _ (nl hpw) hpw), fun qw H10 hqw x10 h10 => ⟨.ref a, rfl, a, _, dx, _, rfl, ((x8.trans x9).trans x10) _ _ h7a, cf.c, cf.no _ (by decide), Nat.le_of_ble_eq_true rfl, ?_⟩⟩
    have h10a := ((x8.trans x9).trans x10) _ _ h7a
    have hqwa := nt h10 h10a
    have h10i := ((x8.trans x9).trans x10) _ _ h7
    have A10 : Exa a H H10 := A7.trans (Exa.of ((x8.trans x9).trans x10))
    generalize hH11 : upd H10 a (.ins (cl K "ClassFile") dx (putF "flags" (.ref qw) (putF "interfaces" (.ref qi) (putF "parent" (parV d.parent) (putF "name" (N8.vs d.name) []))))) = H11
    have h11a : H11 a = some (.ins (cl K "ClassFile") dx (putF "flags" (.ref qw) (putF "interfaces" (.ref qi) (putF "parent" (parV d.parent) (putF "name" (N8.vs d.name) []))))) := by rw [← hH11]; exact upd_same
    have h11i : H11 qi = some (.tup (d.faces.map N8.vs)) := by rw [← hH11, upd_ne hqia]; exact h10i
    have h11w : H11 qw = some (.tup ((inOrder d.ws).map V.str)) := by rw [← hH11, upd_ne hqwa]; exact h10
    have A11 : Exa a H H11 := by rw [← hH11]; exact A10.trans exa_upd
    clear hH11
    refine rd_fld (rd_call (rd_cons (rd_ev (ev_var rfl) fun H12 x12 => rd_cons (rd_ev ev_c fun H13 x13 => rd_cons (rd_ev ev_c fun H14 x14 => rd_nil ?_)))))
    have x14' := (x12.trans x13).trans x14
    have A14 : Exa a H H14 := A11.trans (Exa.of x14')
    refine ⟨pf, a_is_field, "field", xf, d.fields, rfl, A14 _ _ (nl hpf) hpf, lf, hxf.imp fun _ _ k => k.exa ha A14, .inl ⟨rfl, ok.fs⟩, fun qf yf H15 hqf x15 h15 hyf => ⟨.ref a, rfl, a, _, dx, _, rfl, (x14'.trans x15) _ _ h11a, cf.c, cf.no _ (by decide), Nat.le_of_ble_eq_true rfl, ?_⟩⟩
    have h15a := (x14'.trans x15) _ _ h11a
    have h15i := (x14'.trans x15) _ _ h11i
    have h15w := (x14'.trans x15) _ _ h11w
    have A15 : Exa a H H15 := A14.trans (Exa.of x15)
    have hqfa := nt h15 h15a
    generalize hH16 : upd H15 a (.ins (cl K "ClassFile") dx (putF "fields" (.ref qf) (putF "flags" (.ref qw) (putF "interfaces" (.ref qi) (putF "parent" (parV d.parent) (putF "name" (N8.vs d.name) [])))))) = H16
    have B16 : Exa a H15 H16 := by rw [← hH16]; exact exa_upd
    have h16a : H16 a = some (.ins (cl K "ClassFile") dx (putF "fields" (.ref qf) (putF "flags" (.ref qw) (putF "interfaces" (.ref qi) (putF "parent" (parV d.parent) (putF "name" (N8.vs d.name) [])))))) := by rw [← hH16]; exact upd_same
    have h16i := B16 _ _ hqia h15i
    have h16w := B16 _ _ hqwa h15w
    have h16f := B16 _ _ hqfa h15
    have h16y : Mems (KeptAt H16) yf d.fields := hyf.imp fun _ _ k => k.exi h15a B16
    have A16 : Exa a H H16 := A15.trans B16
    clear hH16 B16 h15a h15i h15w h15 hyf
    dsimp only
    refine rd_fldL (rd_call (rd_cons (rd_ev (ev_var rfl) fun H17 x17 => rd_cons (rd_ev ev_c fun H18 x18 => rd_cons (rd_ev ev_c fun H19 x19 => rd_nil ?_)))))
    have x19' := (x17.trans x18).trans x19
    have A19 : Exa a H H19 := A16.trans (Exa.of x19')
    refine ⟨pm, a_is_method, "method", xm, d.methods, rfl, A19 _ _ (nl hpm) hpm, lm, hxm.imp fun _ _ k => k.exa ha A19, .inr ⟨rfl, hne, fun m hm => ⟨ok.ms m hm, (hcv m hm).exa ha cf.n1 cf.n2 A19⟩⟩, fun qm ym H20 hqm x20 h20 hym => ⟨.ref a, rfl, a, _, dx, _, rfl, (x19'.trans x20) _ _ h16a, cf.c, cf.no _ (by decide), Nat.le_of_ble_eq_true rfl, ?_⟩⟩
    have h20a := (x19'.trans x20) _ _ h16a
    have hqma := nt h20 h20a
    have A20 : Exa a H H20 := A19.trans (Exa.of x20)
    refine q _ (A20.trans exa_upd) ⟨dx, _, upd_same, qi, qw, qf, qm, yf, ym, rfl, rfl, rfl, rfl, rfl, rfl, ?_, ?_, ?_, ?_, ?_, ?_⟩
    · exact exa_upd _ _ hqia ((x19'.trans x20) _ _ h16i)
    · exact exa_upd _ _ hqwa ((x19'.trans x20) _ _ h16w)
    · exact exa_upd _ _ hqfa ((x19'.trans x20) _ _ h16f)
    · exact h16y.imp fun _ _ k => (k.ex (x19'.trans x20)).exi h20a exa_upd
    · exact exa_upd _ _ hqma h20
    · exact hym.imp fun _ _ k => k.exi h20a exa_upd
end
end N8

set_option autoImplicit false
namespace N8
open PySem PySem.Spec PyProof.Rows L2 Evl
open SX (S)
section
variable {K : PySem.W.Frag} {σ : L2.St} {H H' : Hp} {te : TE}
abbrev rInt1 : List V → Hp → VK → Prop := fun xs H Q => (∃ i, xs = [.int i] ∧ Q (.int i) H) ∨ ∃ k, xs = [.bl k] ∧ Q (.int (if k then 1 else 0)) H
theorem ev_intB {k : Bool} (h : Ev te σ H (.bl k)) : Ev (tCB rInt1 (tCons te tNil)) σ H (.int (if k then 1 else 0)) := fun H1 e Q q => h H1 e _ fun H2 e2 => .inr ⟨k, rfl, q H2 e2⟩
theorem ev_intI {i : Int} (h : Ev te σ H (.int i)) : Ev (tCB rInt1 (tCons te tNil)) σ H (.int i) := fun H1 e Q q => h H1 e _ fun H2 e2 => .inl ⟨i, rfl, q H2 e2⟩
end
/-! ### the well -/
theorem Exa.refl (a : Addr) (H : Hp) : Exa a H H := fun _ _ _ h => h
theorem Exa.upd {a : Addr} {H : Hp} {o : HO} : Exa a H (upd H a o) := fun b o n h => by rw [upd_ne n]; exact h
/-- a was new: then all is as it was -/
theorem Exa.ex {a : Addr} {H H1 H2 : Hp} (h : H a = none) (e : Ex H H1) (x : Exa a H1 H2) : Ex H H2 := fun b o hb => x b o (fun q => by rw [q, h] at hb; cases hb) (e b o hb)
/-- the well at a, with at most n draws counted -/
def WellAt (H : Hp) (a : Addr) (n : Nat) : Prop := ∃ x c : Int, H a = some (.lst [.int x, .int c]) ∧ 0 ≤ c ∧ c ≤ n
theorem WellAt.ex {H H' : Hp} {a : Addr} {n : Nat} (e : Ex H H') (h : WellAt H a n) : WellAt H' a n := by
  obtain ⟨x, c, h1, h2⟩ := h
  exact ⟨x, c, e _ _ h1, h2⟩
theorem WellAt.le {H : Hp} {a : Addr} {n m : Nat} (h : WellAt H a n) (e : n ≤ m) : WellAt H a m := by
  obtain ⟨x, c, h1, h2, h3⟩ := h
  exact ⟨x, c, h1, h2, by omega⟩
def spWell : Sp := fun vs H Q _ => ∃ i : Int, vs = [.int i] ∧ ∀ a H', H a = none → Ex H H' → WellAt H' a 0 → Q (.ref a) H'
def spDraw : Sp := fun vs H Q _ => ∃ (a : Addr) (m : Int) (n : Nat), vs = [.ref a, .int m] ∧ 0 < m ∧ m < 1000000 ∧ WellAt H a n ∧ n ≤ 1000000 ∧ ∀ d H', 0 ≤ d → d < m → Exa a H H' → WellAt H' a (n + 1) → Q (.int d) H'
section
variable {K : PySem.W.Frag} {σ : L2.St} {H H' : Hp} {ta tb tc te : TE} {tl th : TO} {t u : TT} {x y z v : V} {D : Ends}
theorem rv_mod {i j : Int} (h : 0 < j) : RV (rI (fun _ j => 0 < j) fun i j => .int (i % j)) (.int i) (.int j) H (.int (i % j)) := rv_I h
theorem rv_mulS {i j : Int} (h1 : i.natAbs < 2 ^ 64) (h2 : j.natAbs < 2 ^ 64) : RV (rI CMulW fun i j => .int (i * j)) (.int i) (.int j) H (.int (i * j)) := rv_I (wide_mul h1 h2 (by decide) (by decide) (by decide))
theorem rv_fdivS {i j : Int} (h0 : 0 < j) (h2 : j.natAbs < 2 ^ 64) : RV (rI CDivW fun i j => .int (i / j)) (.int i) (.int j) H (.int (i / j)) := rv_I (wide_div h0 h2 (by decide) (by decide))
theorem dr_draw {a : Addr} {m : Int} {n : Nat} {Q : VK} (ha : Ev ta σ H (.ref a)) (hm : Ev tb σ H (.int m)) (h0 : 0 < m) (h1 : m < 1000000) (hw : WellAt H a n) (hn : n ≤ 1000000)
    (k : ∀ d H', 0 ≤ d → d < m → Exa a H H' → WellAt H' a (n + 1) → Q (.int d) H') : tCall spDraw [] L2.E0 (tCons ta (tCons tb tNil)) σ H Q :=
  ea_cons ha (ea_cons hm ea_nil) H (Ex.refl H) _ fun H1 x1 => ⟨a, m, n, rfl, h0, h1, hw.ex x1, hn, fun d H' a1 a2 a3 a4 => k d H' a1 a2 ((Exa.of x1).trans a3) a4⟩
end
section
variable {P : Program} {w : World} {K : PySem.W.Frag} {mg : Str → Option Value} {base : Heap} {C : Addr}
theorem ok_lawWell {f : Addr} {fd : FuncData} (F : FnP K "_law_well" sLawWell f fd) (B : Bt mg) : FnOk P w K mg base L2.CX0 1 f fd ["cell"] spWell := by
  refine F.ok scLawWell (fun vs H Q E h => ?_) (fun cdv A outer s H vs Q E hr h => ?_)
  · obtain ⟨x, rfl, _⟩ := h
    rfl
  · obtain ⟨i, rfl, q⟩ := h
    refine ⟨_, PSs.nox (pss_one (ps_ret (pe_lst (pa_cons (pe_callTy call_int1 (by rfl) B.int (by decide +kernel) (pa_cons (pv 0) pa_nil)) (pa_cons pe_int pa_nil))))), ?_⟩
    exact s_retL (el_lst (ea_cons (ev_intI (ev_var rfl)) (ea_cons ev_c ea_nil)) (by show 2 ≤ 100000; decide)) fun p H1 hp x1 h1 => q p H1 hp x1 ⟨i, 0, h1, by omega, by omega⟩
theorem ok_lawDraw {f : Addr} {fd : FuncData} (F : FnP K "_law_draw" sLawDraw f fd) (B : Bt mg) : FnOk P w K mg base L2.CX0 1 f fd ["well", "many"] spDraw := by
  refine F.ok scLawDraw (fun vs H Q E h => ?_) (fun cdv A outer s H vs Q E hr h => ?_)
  · obtain ⟨a, m, n, rfl, _⟩ := h
    rfl
  · obtain ⟨a, m, n, rfl, m0, m1, ⟨x, c, hx, c0, c1⟩, hn, q⟩ := h
    refine ⟨_, PSs.nox (pss_cons (ps_if (pt_cmpR op_ge (pe_ix ix_list (pv 0) pe_int (fun _ _ => rfl)) (pe_op op_pow pe_int pe_int) (nomark _)) (pss_cons (ps_set (i := 2) scLawDraw.nd rfl (.inl rfl) (pe_op op_mod (pe_callTy call_int1 (by rfl) B.int (by decide +kernel) (pa_cons (pe_ix ix_list (pv 0) pe_int (fun _ _ => rfl)) pa_nil)) (pv 1)))
      (pss_cons (ps_asg (pe_op op_fdivW (pe_ix ix_list (pv 0) pe_int (fun _ _ => rfl)) (pv 1)) (pg_sub (pv 0) pe_int set_list))
      (pss_one (ps_ret (pv 2))))) pss_nil)
      (pss_cons (ps_asg (pe_op op_add (pe_ix ix_list (pv 0) pe_int (fun _ _ => rfl)) pe_int) (pg_sub (pv 0) pe_int set_list))
      (pss_cons (ps_set (i := 3) scLawDraw.nd rfl (.inl rfl) (pe_op op_mod (pe_callTy call_int1 (by rfl) B.int (by decide +kernel) (pa_cons (pe_op op_mulW (pe_callTy call_int1 (by rfl) B.int (by decide +kernel) (pa_cons (pe_op op_add (pe_op op_add (pe_op op_mod (pe_callTy call_int1 (by rfl) B.int (by decide +kernel) (pa_cons (pe_ix ix_list (pv 0) pe_int (fun _ _ => rfl)) pa_nil)) pe_int) (pe_op op_mulW pe_int (pe_ix ix_list (pv 0) pe_int (fun _ _ => rfl)))) pe_int) pa_nil)) pe_int) pa_nil)) pe_int))
      (pss_cons (ps_set (i := 4) scLawDraw.nd rfl (.inl rfl) (pe_op op_mod (pe_callTy call_int1 (by rfl) B.int (by decide +kernel) (pa_cons (pe_op op_fdivW (pe_ix ix_list (pv 0) pe_int (fun _ _ => rfl)) pe_int) pa_nil)) pe_int))
      (pss_cons (ps_set (i := 3) scLawDraw.nd rfl (.inl rfl) (pe_op op_mod (pe_callTy call_int1 (by rfl) B.int (by decide +kernel) (pa_cons (pe_op op_mulW (pv 3) (pe_op op_add (pe_op op_add (pe_op op_fdivW (pv 3) pe_int) pe_int) (pv 4))) pa_nil)) pe_int))
      (pss_one (ps_ret (pe_op op_mod (pe_callTy call_int1 (by rfl) B.int (by decide +kernel) (pa_cons (pe_op op_fdivW (pe_op op_mod (pe_callTy call_int1 (by rfl) B.int (by decide +kernel) (pa_cons (pe_op op_mulW (pv 3) (pe_op op_add (pe_op op_fdivW (pv 3) pe_int) pe_int)) pa_nil)) pe_int) pe_int) pa_nil)) (pv 1))))))))), ?_⟩
    have hix : ∀ (i : Int) (v : V) (σ' : L2.St) (H5 : Hp) (xs : List V), σ'[0]? = some (some (.ref a)) → H5 a = some (.lst xs) → atI xs i = some v → Ev (tOp (rIxL K) (tVar 0) (tC (.int i))) σ' H5 v :=
      fun i v σ' H5 xs h0 h1 h2 => ev_op (ev_var h0) ev_c (rv_ixL (sq_of h1) h2)
    refine q_when (b := decide ((10 : Int) ^ 18 ≤ x)) (et_test (ev_op (hix 0 (.int x) _ _ _ rfl hx rfl) (ev_op ev_c ev_c (rv_I ⟨by decide, by decide, by decide⟩)) (rv_is rv_I0 ?_))) (fun e H1 x1 => ?_) (fun e H1 x1 => ?_)
    · rfl
    · refine q_asg (ev_op (ev_intI (hix 0 (.int x) _ _ _ rfl (x1 _ _ hx) rfl)) (ev_var rfl) (rv_mod m0)) fun H2 x2 => ?_
      refine q_setL (l := a) (xs := [.int x, .int c]) (j := 0) (x2 _ _ (x1 _ _ hx)) (ev_op (hix 0 (.int x) _ _ _ rfl (x2 _ _ (x1 _ _ hx)) rfl) (ev_var rfl) (rv_fdivS m0 (by omega))) (ev_var rfl) ev_c (by show 0 < 2; decide) fun H3 x3 => ?_
      refine s_ret (ev_var rfl) fun H4 x4 => q _ H4 (Int.emod_nonneg _ (by omega)) (Int.emod_lt_of_pos _ m0) ?_ ⟨x / m, c, x4 _ _ upd_same, c0, by omega⟩
      exact (Exa.of ((x1.trans x2).trans x3)).trans (Exa.upd.trans (Exa.of x4))
    · refine q_setL (l := a) (xs := [.int x, .int c]) (j := 1) (x1 _ _ hx) (ev_op (hix 1 (.int c) _ _ _ rfl (x1 _ _ hx) rfl) ev_c rv_I0) (ev_var rfl) ev_c (by show 1 < 2; decide) fun H2 x2 => ?_
      have h2 : (upd H2 a (.lst ([V.int x, V.int c].set 1 (V.int (c + 1))))) a = some (.lst [.int x, .int (c + 1)]) := upd_same
      generalize hH : upd H2 a (.lst ([V.int x, V.int c].set 1 (V.int (c + 1)))) = H3 at h2
      have xa : Exa a H H3 := by
        rw [← hH]
        exact (Exa.of (x1.trans x2)).trans Exa.upd
      clear hH
      have e1 := Int.emod_nonneg x (show (2147483629 : Int) ≠ 0 by decide)
      have e2 := Int.emod_lt_of_pos x (show (0 : Int) < 2147483629 by decide)
      refine q_asg (v := .int (((x % 2147483629 + 60013 * (c + 1) + 11) * 48271) % 2147483647)) (ev_op (ev_intI (ev_op (ev_intI (ev_op (ev_op (ev_op (ev_intI (hix 0 (.int x) _ _ _ rfl h2 rfl)) ev_c (rv_mod (by decide))) (ev_op ev_c (hix 1 (.int (c + 1)) _ _ _ rfl h2 rfl) (rv_mulS (by decide) (by omega))) rv_I0) ev_c rv_I0)) ev_c (rv_mulS (by omega) (by decide)))) ev_c (rv_mod (by decide))) fun H4 x4 => ?_
      have e3 := Int.emod_nonneg ((x % 2147483629 + 60013 * (c + 1) + 11) * 48271) (show (2147483647 : Int) ≠ 0 by decide)
      have e4 := Int.emod_lt_of_pos ((x % 2147483629 + 60013 * (c + 1) + 11) * 48271) (show (0 : Int) < 2147483647 by decide)
      generalize ((x % 2147483629 + 60013 * (c + 1) + 11) * 48271) % 2147483647 = nr at e3 e4 ⊢
      refine q_asg (v := .int ((x / 2147483629) % 9973)) (ev_op (ev_intI (ev_op (hix 0 (.int x) _ _ _ rfl (x4 _ _ h2) rfl) ev_c (rv_fdivS (by decide) (by decide)))) ev_c (rv_mod (by decide))) fun H5 x5 => ?_
      have e5 := Int.emod_nonneg (x / 2147483629) (show (9973 : Int) ≠ 0 by decide)
      have e6 := Int.emod_lt_of_pos (x / 2147483629) (show (0 : Int) < 9973 by decide)
      generalize (x / 2147483629) % 9973 = mo at e5 e6 ⊢
      refine q_asg (v := .int ((nr * (nr / 1013 + 40692 + mo)) % 2147483587)) (ev_op (ev_intI (ev_op (ev_var rfl) (ev_op (ev_op (ev_op (ev_var rfl) ev_c (rv_fdivS (by decide) (by decide))) ev_c rv_I0) (ev_var rfl) rv_I0) (rv_mulS (by omega) (by omega)))) ev_c (rv_mod (by decide))) fun H6 x6 => ?_
      have e7 := Int.emod_nonneg (nr * (nr / 1013 + 40692 + mo)) (show (2147483587 : Int) ≠ 0 by decide)
      have e8 := Int.emod_lt_of_pos (nr * (nr / 1013 + 40692 + mo)) (show (0 : Int) < 2147483587 by decide)
      generalize (nr * (nr / 1013 + 40692 + mo)) % 2147483587 = n2 at e7 e8 ⊢
      refine s_ret (v := .int (((n2 * (n2 / 2003 + 69621)) % 2147483563 / 5) % m)) (ev_op (ev_intI (ev_op (ev_op (ev_intI (ev_op (ev_var rfl) (ev_op (ev_op (ev_var rfl) ev_c (rv_fdivS (by decide) (by decide))) ev_c rv_I0) (rv_mulS (by omega) (by omega)))) ev_c (rv_mod (by decide))) ev_c (rv_fdivS (by decide) (by decide)))) (ev_var rfl) (rv_mod m0)) fun H7 x7 => ?_
      exact q _ H7 (Int.emod_nonneg _ (by omega)) (Int.emod_lt_of_pos _ m0) (xa.trans (Exa.of (((x4.trans x5).trans x6).trans x7))) ⟨x, c + 1, x7 _ _ (x6 _ _ (x5 _ _ (x4 _ _ h2))), by omega, by omega⟩
end
end N8

set_option maxHeartbeats 1000000
set_option autoImplicit false
namespace N8
open PySem PySem.Spec PyProof.Rows L2 Evl
open SX (S)
theorem pe_cl0 {X : Cx} {k j : Nat} {x : Str} {sp : Sp} {p pos : Pos} (c : Cl X.prog X.w X.K X.mg X.base L2.CX0 k x [] sp) (hr : Room j X.A) (hk : k ≤ j) (hg : Gl X x) (hdb : (x == ("__debug__" : Str)) = false := by decide) :
    PE X (.Call (.Name x p) [] [] pos) (tCall sp [] L2.E0 tNil) := by
  obtain ⟨f, fd, F, hm, hkp, hb⟩ := c.ex
  exact pe_call0 F (hr.mono hk) hg hm hkp hb .nil L2.pass0 hdb
def spOne : Sp := fun vs H Q _ => ∃ (a p : Addr) (xs : List V) (n : Nat), vs = [.ref a, .ref p] ∧ H p = some (.lst xs) ∧ p ≠ a ∧ xs ≠ [] ∧ xs.length ≤ 1000 ∧ WellAt H a n ∧ n ≤ 1000000 ∧ ∀ v H', v ∈ xs → Exa a H H' → WellAt H' a (n + 1) → Q v H'
theorem atI_some {α : Type} {xs : List α} {d : Int} (h0 : 0 ≤ d) (h1 : d < xs.length) : ∃ v, atI xs d = some v ∧ v ∈ xs := by
  have hi : d.toNat < xs.length := by omega
  refine ⟨xs[d.toNat], ?_, List.getElem_mem _⟩
  have := atI_nat (List.getElem?_eq_getElem hi)
  rwa [show ((d.toNat : Nat) : Int) = d by omega] at this
section
variable {P : Program} {w : World} {K : PySem.W.Frag} {mg : Str → Option Value} {base : Heap} {C : Addr}
theorem ok_lawOne {f : Addr} {fd : FuncData} (F : FnP K "_law_one" sLawOne f fd) (B : Bt mg) (c_law_draw : Cl P w K mg base L2.CX0 1 "_law_draw" ["well", "many"] spDraw) : FnOk P w K mg base L2.CX0 2 f fd ["well", "some"] spOne := by
  refine F.ok scLawOne (fun vs H Q E h => ?_) (fun cdv A outer s H vs Q E hr h => ?_)
  · obtain ⟨a, p, xs, n, rfl, _⟩ := h
    rfl
  · obtain ⟨a, p, xs, n, rfl, hp, hpa, hne, hx, hw, hn, q⟩ := h
    refine ⟨_, PSs.nox (pss_one (ps_ret (pe_ix ix_list (pv 1) (pe_cl c_law_draw hr (by decide) (by rfl) (pa_cons (pv 0) (pa_cons (pe_callB call_len_seq (by rfl) B.len PySem.boot_len (pa_cons (pv 1) pa_nil)) pa_nil))) (fun _ _ => rfl)))), ?_⟩
    refine ⟨_, rfl, ?_⟩
    refine dr_draw (a := a) (m := (xs.length : Int)) (n := n) (ev_var rfl) (ev_len (ev_var rfl) (sq_of hp)) ?_ (by omega) hw hn fun d H' h0 h1 hxa hw' => ?_
    · cases xs with
      | nil => exact absurd rfl hne
      | cons x r => simp only [List.length_cons]; omega
    · obtain ⟨v, hv, hm⟩ := atI_some h0 h1
      exact ⟨p, xs, d, v, rfl, rfl, sq_of (hxa _ _ hpa hp), hv, q v H' hm hxa hw'⟩
end
theorem well_ne {a p : Addr} {n : Nat} {H : Hp} (hw : WellAt H a n) (h : H p = none) : p ≠ a := by
  obtain ⟨y, c, h1, _⟩ := hw
  exact fun e => by rw [e, h1] at h; cases h
section
variable {K : PySem.W.Frag} {σ : L2.St} {H H' : Hp} {te ta : TE} {t : TA} {r : R2} {v x : V} {D : Ends} {tz tu : TS} {Q : VK}
theorem rd_seq (h : tu { D with nx := tz D } σ H) : tSeq tu tz D σ H := h
theorem rd_lst (h : t σ H fun xs H1 => xs.length ≤ sizeLine ∧ ∀ p, H1 p = none → Q (.ref p) (upd H1 p (.lst xs))) : tLst t σ H Q := h
theorem rd_op (h : ta σ H fun x H1 => te σ H1 fun y H2 => r x y H2 Q) : tOp r ta te σ H Q := h
theorem rd_c (h : Q v H) : tC v σ H Q := h
end
end N8

set_option maxHeartbeats 2000000
set_option autoImplicit false
/-! enumerate of a tuple -/
namespace EN
open PySem PySem.Spec PyProof.Rows L2
open AutoSeq1 (wpAny_loadPart')
theorem new_t (b : Addr) (its : Array Value) : Meets (Builtin.«enumerate.__new__» ⟨[.type "enumerate", .ref b], []⟩) (fun _ R s => s.heap.IsTuple b its ∧
    R (.ok (.ret (.ref (s.heap.push { cls := .type "tuple_iterator", data := .fields #[.ref b, .int 0 0] }).objs.size))) { s with heap := (s.heap.push { cls := .type "tuple_iterator", data := .fields #[.ref b, .int 0 0] }).push { cls := .type "enumerate", data := .fields #[.none, .bool false, .ref s.heap.objs.size, rawInt 0, .none, .none] } }) :=
  .of_wp fun prog w A R s q => by
    obtain ⟨g0, g1, g2, g3, g4⟩ := s
    obtain ⟨q1, q2⟩ := q
    have sub := sub_enumerate
    wp_walk
    refine wpAny_stack_any fun st => wpAny_pure ?_
    split
    · rename_i cl _ _ _ _ _
      cases (cl == Value.type "enumerate")
      · wp_walk using wpAny_pyIter_tuple q1
        exact ⟨_, rfl, q2⟩
      · wp_walk using wpAny_pyIter_tuple q1
        exact ⟨_, rfl, q2⟩
    · wp_walk using wpAny_pyIter_tuple q1
      exact ⟨_, rfl, q2⟩
section
variable {P : Program} {w : World} {A : Around} {E : Value → Shared → Prop} {s : Shared}
theorem call_t {b : Addr} {its : Array Value} {Q : Value → Shared → Prop} (hb : s.heap.IsTuple b its)
    (q : ∀ g, IsEnum g (s.heap.objs.size + 1) s.heap.objs.size 0 .none → g.IsTupleIter s.heap.objs.size b 0 → g.objs.size = s.heap.objs.size + 2 → (∀ c o, s.heap.get? c = some o → g.get? c = some o) → Q (.ref (s.heap.objs.size + 1)) { s with heap := g }) :
    wpAny (model P w) A (call (.type "enumerate") [.ref b]) Q E s := by
  refine callType_new PySem.F.called_enumerate (by decide) (PySem.F.typeCall_enumerate_1 _) (PySem.F.newCall_enumerate_1 _) (fun y => PySem.F.args_object_init_2 y _) PySem.F.entry_enumerate_new (new_t b its) ⟨hb, ?_⟩
  have z1 : (s.heap.push { cls := .type "tuple_iterator", data := .fields #[.ref b, .int 0 0] }).objs.size = s.heap.objs.size + 1 := Heap.size_push ..
  have z2 := Heap.get?_push_size (s.heap.push { cls := .type "tuple_iterator", data := .fields #[.ref b, .int 0 0] }) (o := { cls := .type "enumerate", data := .fields #[.none, .bool false, .ref s.heap.objs.size, rawInt 0, .none, .none] }) rfl
  show _ ∧ _
  rw [z1] at z2 ⊢
  exact ⟨⟨_, z2, rfl⟩, q _ z2 ⟨_, Heap.get?_push_of_some _ (Heap.get?_push_size _ rfl), rfl, rfl⟩ (by rw [Heap.size_push, z1]) fun c o y => Heap.get?_push_of_some _ (Heap.get?_push_of_some _ y)⟩
end
/-- the tuple at a, each item in a new pair -/
def Iet (K : PySem.W.Frag) (a : Addr) : It :=
  ⟨fun i H => ∃ (xs : List V) (x : V), SqT K H a xs ∧ xs[i]? = some x, fun i H v H' => ∃ T x, v = .ref T ∧ H T = none ∧ H' = upd H T (.tup [.int (i : Nat), x]) ∧ ∀ xs, SqT K H a xs → xs[i]? = some x, fun i H => ∃ xs : List V, SqT K H a xs ∧ xs.length ≤ i⟩
theorem apart {g : Heap} {e it a : Addr} {i : Int} {old : Value} {its : Array Value} (h1 : IsEnum g e it i old) (h2 : g.IsTuple a its) : e ≠ a := fun z => by
  obtain ⟨o, o1, o2, _⟩ := h2
  rw [← z, h1] at o1
  rw [← Option.some.inj o1] at o2
  injection o2 with o2
  exact absurd o2 (by decide)
theorem apart2 {g : Heap} {it a : Addr} {i : Nat} {its : Array Value} (h1 : g.IsTupleIter it a i) (h2 : g.IsTuple a its) : a ≠ it := fun z => by
  obtain ⟨o, o1, o2, _⟩ := h2
  obtain ⟨u, u1, u2, _⟩ := h1
  rw [z, u1] at o1
  rw [← Option.some.inj o1, u2] at o2
  injection o2 with o2
  exact absurd o2 (by decide)
/-- behind the last item -/
theorem last_t {P : Program} {w : World} {A : Around} (hd : A.handled = none) {it a : Addr} {i : Nat} {its : Array Value} (hx : its[i]? = none) : Draws P w A it [it, a] i (fun _ _ => False) (fun j g => j = i ∧ g.IsTupleIter it a i ∧ g.IsTuple a its) where
  live := fun _ _ st => let ⟨o, ho, _⟩ := st.2.1; ⟨o, ho⟩
  frame := fun _ _ _ st k => ⟨st.1, st.2.1.at fun o e => k it (by simp) o e, st.2.2.at fun o e => k a (by simp) o e⟩
  item := fun j s Q E hj st _ => absurd st.1 (Nat.ne_of_lt hj)
  done := fun s Q E st q => wpAny_nextOf_tuple_end hd st.2.1 st.2.2 hx q
theorem turn_t {P : Program} {w : World} {K : PySem.W.Frag} {elts : List Expr} {kk : Nat} {tpos : Pos} (a e it : Addr) :
    Turn P w K (.Tuple elts kk tpos) (Iet K a) [e, it] e (fun i g => (∃ old, IsEnum g e it ((i : Nat) : Int) old) ∧ g.IsTupleIter it a i ∧ e ≠ it) where
  mem := by simp
  obj := fun i g st b hb => by
    obtain ⟨⟨old, q1⟩, ⟨o, o1, o2, o3⟩, _⟩ := st
    rcases (show b = e ∨ b = it by simpa using hb) with z | z
    · exact ⟨_, by rw [z]; exact q1, fun v q => by cases q⟩
    · exact ⟨o, by rw [z]; exact o1, fun v q => by rw [o3] at q; cases q⟩
  keep := fun i g g2 st k => by
    obtain ⟨⟨old, q1⟩, q2, q3⟩ := st
    exact ⟨⟨old, k e (by simp) _ q1⟩, q2.at fun o q => k it (by simp) o q, q3⟩
  item := by
    intro X hP hw hK hc i pins s σ H E I hf st hg
    subst hP hw hK
    obtain ⟨⟨old, he⟩, hit, hne⟩ := st
    obtain ⟨xs, x, hq, hx⟩ := hg
    obtain ⟨its, rv, tp, _⟩ := I.tuple hq
    obtain ⟨u, hu, ru⟩ := rv.get hx
    have hd := I.ok.hd hc
    have ha := apart he tp
    have D := Draws.tuple (prog := X.prog) (w := X.w) (A := X.A.in1) hd it a (apart2 hit tp) its.toArray
    have lt : i < its.toArray.size := by
      have := (List.getElem?_eq_some_iff.mp hx).1
      rw [List.size_toArray, ← rv.length]
      exact this
    have le : e < s.heap.objs.size := Heap.lt_size he
    have li : it < s.heap.objs.size := by obtain ⟨_, q, _⟩ := hit; exact Heap.lt_size q
    refine wpAny_pyNext_enum_itemD D he ⟨hit, tp⟩ lt hne (by simp [hne, ha]) fun y g tk hy ho st2 hT hsz hk => ?_
    obtain rfl : u = y := by
      have h1 : its[i]? = some y := by simpa using hy
      rw [hu] at h1
      exact Option.some.inj h1
    refine ⟨_, rfl, wpAny_letOwnedTupleGo_enum (s := { s with heap := g, toks := tk + 1 }) ho fun g2 he2 sb => ?_⟩
    have hT2 : g2.get? s.heap.objs.size = some { cls := .type "tuple", data := .seq #[.int i tk, u] } := (sb.2 _ (Nat.ne_of_gt le)).trans hT
    have new : ObjOk X.prog X.w (upd H s.heap.objs.size (.tup [.int (i : Nat), x])) g2 s.heap.objs.size (.tup [.int (i : Nat), x]) := ⟨by show 2 ≤ sizeLine; decide, [.int i tk, u], .cons ⟨_, rfl⟩ (.cons ru .nil), ⟨_, hT2, rfl, _, rfl⟩⟩
    have I1 : Inv X pins σ (upd H s.heap.objs.size (.tup [.int (i : Nat), x])) { s with heap := g2, toks := tk + 1 } :=
      I.turnedNew (ch := [e, it]) (fun b ob hb q => (sb.2 b (fun z => hb (by simp [z]))).trans (hk b ob (fun z => hb (by simp [z])) (fun z => hb (by simp [z])) q)) hf (Nat.le_refl _) new
    refine ⟨.ref s.heap.objs.size, _, I1, rfl, ⟨_, x, rfl, I.hok.fresh (Nat.le_refl _), rfl, fun ys hy2 => ?_⟩, ⟨⟨u, ?_⟩, st2.1.at fun o q => (sb.2 it (Ne.symm hne)).trans q, hne⟩, fun b hb => ?_⟩
    · rw [I.tuple_inj hy2 hq]
      exact hx
    · rw [show ((i + 1 : Nat) : Int) = (i : Int) + 1 by omega]
      exact he2
    · have lb : b < s.heap.objs.size := by
        rcases (show b = e ∨ b = it by simpa using hb) with z | z
        · rw [z]; exact le
        · rw [z]; exact li
      rw [upd_ne (Nat.ne_of_lt lb)]
      exact (hf b hb).1
  done := by
    intro X hP hw hK hc i pins s σ H E I hf st hg
    subst hP hw hK
    obtain ⟨⟨old, he⟩, hit, hne⟩ := st
    obtain ⟨xs, hq, hx⟩ := hg
    obtain ⟨its, rv, tp, _⟩ := I.tuple hq
    obtain ⟨f0, f1, f2, f3, f4, f5⟩ := hf it (by simp)
    have out : its.toArray[i]? = none := by
      have e := rv.length
      simp; omega
    exact wpAny_pyNext_enum_endD (last_t (A := X.A.in1) (I.ok.hd hc) out) he ⟨rfl, hit, tp⟩ fun g eb => ⟨rfl, I.turned (t' := s.toks) (fun b o hb q => eb b o hb q) f0 f1 f3 f4 f5⟩
  self := fun A i s Q E st h => let ⟨⟨_, he⟩, _⟩ := st; wpAny_pyIter_enum he h
def iEnT (K : PySem.W.Frag) (ta : TA) : TI := fun σ H R => ta σ H fun vs H1 => ∃ a xs, vs = [.ref a] ∧ SqT K H1 a xs ∧ R (Iet K a) H1
theorem pi_enT {X : Cx} {e : Expr} {ta : TA} {p pos tpos : Pos} {elts : List Expr} {kk : Nat} (hg : Gl X "enumerate") (hm : X.mg "enumerate" = none) (ha : PA X [e] ta) (hs : starEach [e] X.env = [(false, eval e X.env)] := by rfl) :
    PI X (.Tuple elts kk tpos) (.Call (.Name "enumerate" p) [e] [] pos) (iEnT X.K ta) := by
  refine ⟨fun pins s σ H R I h => ?_⟩
  refine Call_ (ld_blt I hg hm boot_enumerate (PyProof.Rows.callWith_type1 (thn (ha.run pos pins s σ H _ I h) fun us s1 y => ?_) hs rfl))
  obtain ⟨vs, H1, I1, r1, a, xs, rfl, hq, q⟩ := y
  cases r1 with
  | cons r rr =>
    cases rr
    cases r
    obtain ⟨its, rv, tp, _⟩ := I1.tuple hq
    refine call_t tp fun g he hit hsz hk => wpAny_pyIter_enum he ?_
    refine ⟨s1.heap.objs.size + 1, [s1.heap.objs.size + 1, s1.heap.objs.size], _, _, H1, rfl, I1.kept (t' := s1.toks) hk, turn_t a (s1.heap.objs.size + 1) s1.heap.objs.size, ⟨⟨.none, he⟩, hit, Nat.succ_ne_self _⟩, fun b hb => ?_, q⟩
    have big : s1.heap.objs.size ≤ b := by
      rcases (show b = s1.heap.objs.size + 1 ∨ b = s1.heap.objs.size by simpa using hb) with z | z
      · rw [z]; exact Nat.le_add_right _ _
      · rw [z]; exact Nat.le_refl _
    exact I1.fpOk big (I1.hok.fresh big)
end EN

set_option autoImplicit true
set_option maxHeartbeats 4000000
/-! set(xs), xs a list of ints; sorted of such a set, of any size. -/
namespace SI
open PySem PySem.Spec PyProof.Rows L2
section
variable {P : Program} {w : World} {A : Around} {E : Value → Shared → Prop} {s : Shared}
abbrev newSet (w : World) : Obj := { cls := .type "set", dict := none, data := .set #[] 0 (.fresh 0 0 (!w.params.followText "set-order")) }
theorem callSetI {l : Addr} {items : Array Value} {ns : List Int} {Q : Value → Shared → Prop} (calm : A.handled = none) (lst : s.heap.IsList l items) (nums : IntsAre items.toList ns) (room : ns.length + 1 < scanBound)
    (z : ∀ (h' : Heap) (tk c : Nat), SetR w h' s.heap.objs.size (fun j => decide (j ∈ ns)) c → c ≤ ns.length → (∀ b o, s.heap.get? b = some o → h'.get? b = some o) → Q (.ref s.heap.objs.size) { s with heap := h', toks := tk }) :
    wpAny (model P w) A (call (.type "set") [.ref l]) Q E s := by
  have len : items.size = ns.length := by rw [← Array.length_toList]; exact IntsAre.length nums
  obtain ⟨c, tl, _mro⟩ := F.called_set.mro
  have _made := F.called_set.made
  have _sub := F.called_set.sub
  refine wpAny_call (codeAny_of_tree (show wpAny _ _ (callAny (.type "set") _) _ _ _ from ?_))
  refine wpAny_pure ⟨Code.quiet_builtin _ (by decide +kernel), codeAny_builtin F.entry_type_call ?_⟩
  rw [Around.under_plain (weight_type_call_type "set" [.ref l] []) rfl]
  have _n1 := F.called_set.notType
  have _n2 := F.called_set.canCreate
  have _ct := F.typeCall_set_1 (.ref l)
  repeat (any_goals (first | assumption | wp_step))
  refine codeAny_mono (code_set_led1 (.ref l) (E := E) (Q₁ := fun obj s₁ => obj = .ref s.heap.objs.size ∧ s₁ = { s with heap := s.heap.push (newSet w) }) ⟨rfl, rfl⟩) fun r s₁ hr => ?_
  cases r with
  | error e => exact hr
  | ok fl =>
    cases fl with
    | ret obj =>
      obtain ⟨rfl, rfl⟩ := hr
      have there : (s.heap.push (newSet w)).get? s.heap.objs.size = some (newSet w) := Heap.get?_push_size _ rfl
      have ty : Shared.TypeIs { s with heap := s.heap.push (newSet w) } (.ref s.heap.objs.size) "set" := ⟨_, there, rfl⟩
      have _li := F.called_set.init.lookup
      have _bi := F.called_set.init.bind (.ref s.heap.objs.size)
      repeat (any_goals (first | assumption | wp_step))
      refine codeAny_mono (codeAny_call_builtin (R := wants (fun r s₂ => r = .none ∧ ∃ h' tk c, s₂ = { s with heap := h', toks := tk } ∧ SetR w h' s.heap.objs.size (fun j => decide (j ∈ ns)) c ∧ c ≤ ns.length ∧ (∀ b o, s.heap.get? b = some o → h'.get? b = some o)) E)
        F.called_set.init.plain F.entry_set_init (check_set_init_1 ty ?_)) fun r₂ s₂ hr₂ => ?_
      · obtain ⟨ol, hol, cls, nl, dat⟩ := lst
        obtain ⟨ocls, odict, odata, oslots⟩ := ol
        simp only at cls dat
        subst cls dat
        have hol' : (s.heap.push (newSet w)).get? l = some { cls := .type "list", dict := odict, data := .seq items nl, slots := oslots } := Heap.get?_push_of_some _ hol
        have _s1 := F.sub_list_set
        have _s2 := F.sub_list_frozenset
        have _s3 : (Value.type "list" == Value.type "dict") = false := by decide
        have lst1 : (s.heap.push (newSet w)).IsList l items := ⟨_, hol', rfl, nl, rfl⟩
        unfold Builtin.«set.__init__» noKeywords Builtin.Frozenset.updateFrom
        generalize eqI : pyIter = PI
        wp_walk
        subst eqI
        refine wpAny_pyIter_list lst1 (wpAny_bind (wpAny_runValue ?_))
        have below : l < s.heap.objs.size := Heap.lt_size hol
        have calm3 : A.in1.in1.in1.handled = none := by simp [calm]
        have sz : (s.heap.push (newSet w)).objs.size = s.heap.objs.size + 1 := Heap.size_push _ _
        have ne1 : l ≠ (s.heap.push (newSet w)).objs.size := by rw [sz]; exact Nat.ne_of_lt (Nat.lt_succ_of_lt below)
        have apart : s.heap.objs.size ∉ [(s.heap.push (newSet w)).objs.size, l] := by
          rw [sz]
          simp only [List.mem_cons, List.mem_singleton, List.not_mem_nil, or_false, not_or]
          exact ⟨Nat.ne_of_lt (Nat.lt_succ_self _), Nat.ne_of_gt below⟩
        have vals : ∀ (i : Nat) (v : Value), items[i]? = some v → ∃ k t, ns[i]? = some k ∧ v = .int k t := fun i v hv => by
          have hi : i < ns.length := by rw [← len]; exact (Array.getElem?_eq_some_iff.mp hv).1
          obtain ⟨t, e⟩ := IntsAre.int_at nums i v (by rw [Array.getElem?_toList]; exact hv)
          exact ⟨ns[i], t, List.getElem?_eq_getElem hi, by rw [e, List.getD_eq_getElem?_getD, List.getElem?_eq_getElem hi] <;> rfl⟩
        refine set_update_ints ((Walks.list calm3 _ l ne1 items).toS) s.heap.objs.size apart ns len room vals (items.size - 0) 0 _ (by omega) (Nat.zero_le _)
          ⟨⟨_, Heap.get?_push_size _ rfl, rfl, rfl⟩, (lst1.push _)⟩ ?start ?out
        case start =>
          have got : ((s.heap.push (newSet w)).push { cls := .type "list_iterator", data := .fields #[.ref l, .int 0 0] }).get? s.heap.objs.size = some (newSet w) := Heap.get?_push_of_some _ there
          exact ⟨0, Nat.le_refl 0, setR_new_at got⟩
        case out =>
          intro s' c' mv hc' fs
          obtain ⟨h', g', d', tk', os'⟩ := s'
          obtain rfl : g' = s.gens := mv.gens
          obtain rfl : d' = s.drawn := mv.drawn
          obtain rfl : os' = s.os := mv.os
          show wpAny _ _ _ _ _ _
          rw [len] at hc'
          refine wpAny_pure (show wpAny _ _ (ret Value.none) _ _ _ from wpAny_pure ⟨rfl, h', tk', c', rfl, fs, hc', fun b o e => ?_⟩)
          have hb : b < s.heap.objs.size := Heap.lt_size e
          have ne2 : b ≠ s.heap.objs.size ∧ b ≠ (s.heap.push (newSet w)).objs.size := ⟨Nat.ne_of_lt hb, by rw [sz]; exact Nat.ne_of_lt (Nat.lt_succ_of_lt hb)⟩
          exact mv.heap b o (by simp only [List.mem_cons, List.mem_singleton, List.not_mem_nil, or_false, not_or]; exact ne2) (Heap.get?_push_of_some _ (Heap.get?_push_of_some _ e))
      · cases r₂ with
        | error e => exact hr₂
        | ok fl₂ =>
          cases fl₂ with
          | ret r =>
            obtain ⟨rfl, h', tk, c', rfl, fs, hc', kept⟩ := hr₂
            repeat (any_goals (first | assumption | wp_step))
            exact z _ _ _ fs hc' kept
          | _ => exact hr₂.elim
    | _ => exact hr.elim
theorem callSortedSet {a : Addr} {S : Int → Bool} {n : Nat} {Q : Value → Shared → Prop} (R : SetR w s.heap a S n) (calm : A.handled = none) (room : n ≤ sizeLine)
    (z : ∀ s' p (out : Array Value) (c : Nat) (ns : List Int), (∀ b o, s.heap.get? b = some o → s'.heap.get? b = some o) → s'.gens = s.gens → s'.os = s.os → s.heap.objs.size ≤ p →
      s'.heap.get? p = some (seqObj "list" out c) → IntsAre out.toList ns → ns.Pairwise (· < ·) → (∀ k, k ∈ ns ↔ S k = true) → ns.length = n → Q (.ref p) s') :
    wpAny (model P w) A (call (.builtin "sorted") [.ref a]) Q E s := by
  obtain ⟨o, es, ep, t, ho, hex, hd, g, nd, hm, hb, hf, hn, hr, hl⟩ := R
  refine Calls.call_function_entry kind_sorted plain_sorted entry_sorted (args_sorted1 _) (show wpAny _ _ (Builtin.«sorted» _) _ _ _ from ?_)
  unfold Builtin.«sorted»
  refine wpAny_bind (m := checkCount "sorted" 1 1 _) (wpAny_pure (wpAny_bind (collect_set (A := A.in1) calm ⟨o, ho, hex.1, hd⟩ hf hb hr hl fun s1 vs k1 hz g1 o1 pm => ?_)))
  have hvl : vs.length = n := by rw [pm.length_eq, List.length_map, Array.length_toList]; exact hn
  have hI : IntsAre vs (vs.map SrtO.iv) := SrtO.ints_iv fun v hv => by
    obtain ⟨e, he, q⟩ := List.mem_map.mp (pm.mem_iff.mp hv)
    obtain ⟨k, tk, h1, _⟩ := g e he
    exact ⟨k, tk, by rw [← q]; exact h1⟩
  have pk : (vs.map SrtO.iv).Perm (es.toList.map keyOf) := by
    have q := pm.map SrtO.iv
    rw [List.map_map] at q
    refine q.trans (List.Perm.of_eq (List.map_congr_left fun e he => ?_))
    obtain ⟨k, tk, h1, _⟩ := g e he
    show SrtO.iv e.2 = keyOf e
    unfold keyOf
    rw [h1]
    rfl
  refine wpAny_bind (wpAny_newList ?_ (by rw [hvl]; exact room))
  have hoL : (s1.heap.push (seqObj "list" vs.toArray 0)).get? s1.heap.objs.size = some (seqObj "list" vs.toArray 0) := Heap.get?_push_size _ rfl
  refine wpAny_bind (wpAny_holding (wpAny_call_entry slot_list_sort ⟨_, hoL, rfl⟩ entry_list_sort (SrtO.list_sort_ord SrtO.swo_int hoL (by rw [hvl]; exact room) (fun h2 => SrtO.ints_sortable hI h2) fun out a1 a2 => ⟨_, rfl, ?_⟩) (args_list_sort _)))
  obtain ⟨b1, b2, b3⟩ := SrtO.ints_out hI a1 a2
  obtain ⟨c, hc⟩ := sortedHeap_at (vs := vs) (out := out.toArray) hoL
  have pn : (out.map SrtO.iv).Perm (es.toList.map keyOf) := b2.trans pk
  refine wpAny_pure ⟨_, rfl, z _ s1.heap.objs.size out.toArray c (out.map SrtO.iv) (fun b u e => ?_) g1 o1 hz hc (by simpa using b1) (lt_of_le_nodup _ b3 (pn.nodup_iff.mpr nd)) (fun k => by rw [pn.mem_iff, ← hm k]) ?_⟩
  · have lt := Heap.lt_size (k1 b u e)
    show (sortedHeap (s1.heap.push (seqObj "list" vs.toArray 0)) s1.heap.objs.size vs out.toArray).get? b = some u
    rw [sortedHeap_old (Nat.ne_of_lt lt) (by rw [size_push']; exact Nat.lt_succ_of_lt lt)]
    exact Heap.get?_push_of_some _ (k1 b u e)
  · rw [pn.length_eq, List.length_map, Array.length_toList]; exact hn
end
section
variable {X : Cx}
/-- set(xs), xs a list of ints -/
def rSetI (K : PySem.W.Frag) (w : World) : List V → Hp → VK → Prop := fun xs H Q => ∃ (l : Addr) (ns : List Int), xs = [V.ref l] ∧ SqL K H l (ns.map V.int) ∧ ns.length + 1 < scanBound ∧
  ∀ a c, H a = none → c ≤ ns.length → Q (.ref a) (upd H a (SetO w a (fun j => decide (j ∈ ns)) c))
theorem cr_setI (hc : X.calm = true) : CallR X (.type "set") (rSetI X.K X.w) := by
  intro pins s σ H xs us Q I r h
  obtain ⟨l, ns, rfl, hl, hf, q⟩ := h
  rw [Vals.ref1 r]
  obtain ⟨its, rv, pl, hz⟩ := I.list hl
  refine callSetI (P := X.prog) (w := X.w) (ns := ns) (I.ok.hd hc) pl.isList (by simpa using rv.ints) hf fun h' tk c R hcn k => ?_
  exact ⟨.ref s.heap.objs.size, upd H s.heap.objs.size (SetO X.w s.heap.objs.size (fun j => decide (j ∈ ns)) c), I.laid (t' := tk) k (Nat.le_refl _) (setO_new R), rfl, q _ c (I.hok.fresh (Nat.le_refl _)) hcn⟩
/-- sorted(found), of any size -/
def rSortSI (w : World) : List V → Hp → VK → Prop := fun vs H Q => ∃ (a : Addr) (S : Int → Bool) (n : Nat), vs = [V.ref a] ∧ H a = some (SetO w a S n) ∧ n ≤ sizeLine ∧
  ∀ (ns : List Int) (p : Addr), ns.Pairwise (· < ·) → (∀ k : Int, k ∈ ns ↔ S k = true) → ns.length = n → H p = none → Q (.ref p) (upd H p (.lst (ns.map V.int)))
theorem cr_sortSI (hc : X.calm = true) : CallR X (.builtin "sorted") (rSortSI X.w) := by
  intro pins s σ H vs us Q I r h
  obtain ⟨a, S, n, rfl, ha, hz0, q⟩ := h
  rw [Vals.ref1 r]
  refine callSortedSet (setO_get I ha) (I.ok.hd hc) hz0 fun s' p out c ns k g o hp hg hi hs hm hl => ?_
  have hlen : (ns.map V.int).length ≤ sizeLine := by rw [List.length_map, hl]; exact hz0
  have hn : H p = none := I.hok.fresh hp
  have J : Inv X pins σ (upd H p (.lst (ns.map V.int))) { s with heap := s'.heap, gens := s'.gens, drawn := s'.drawn, toks := s'.toks } :=
    I.call (ch := []) (Un.laid k hp hn) (I.hok.laid k hp ⟨hlen, out.toList, c, vals_of_ints hi, hg⟩) (by rw [g]; exact I.bare) (fun _ z => nomatch z)
  have same : s' = { s with heap := s'.heap, gens := s'.gens, drawn := s'.drawn, toks := s'.toks } := by
    cases s'
    cases s
    cases o
    rfl
  rw [same]
  exact ⟨.ref p, _, J, rfl, q ns p hs hm hl hn⟩
end
end SI

set_option maxHeartbeats 4000000
set_option autoImplicit false
/-! Going over what is a list or a tuple. -/
namespace N8
open PySem PySem.Spec PyProof.Rows L2 Evl
def iRow (K : PySem.W.Frag) (tl : TE) : TI := fun σ H R => tl σ H fun x H1 => ∃ a xs, x = .ref a ∧ ((H1 a = some (.lst xs) ∧ R (Itl K a) H1) ∨ (H1 a = some (.tup xs) ∧ R (Itt K a) H1))
def iEnRow (K : PySem.W.Frag) (ta : TA) : TI := fun σ H R => ta σ H fun vs H1 => ∃ a xs, vs = [.ref a] ∧ ((H1 a = some (.lst xs) ∧ R (Ite K a) H1) ∨ (H1 a = some (.tup xs) ∧ R (EN.Iet K a) H1))
section
variable {X : Cx} {tg e : Expr} {te : TE}
theorem pi_row (he : PE X e te) : PI X tg e (iRow X.K te) := by
  refine ⟨fun pins s σ H R I h => thn (he.run pins s σ H _ I h) fun v t y => ?_⟩
  obtain ⟨_, G, J, r1, a, xs, rfl, y⟩ := y
  cases r1
  have ok : ∀ b ∈ [t.heap.objs.size], FpOk X pins G b := fun b hb => by
    obtain rfl : b = t.heap.objs.size := by simpa using hb
    exact J.fpOk (Nat.le_refl _) (J.hok.fresh (Nat.le_refl _))
  rcases y with ⟨hq, q⟩ | ⟨hq, q⟩
  · obtain ⟨its, rv, p, _⟩ := J.list (sq_of (K := X.K) hq)
    exact wpAny_pyIter_list p.isList ⟨_, _, _, _, G, rfl, J.kept (t' := t.toks) fun _ _ z => Heap.get?_push_of_some _ z, turn_list a _, ⟨_, Heap.get?_push_size _ rfl, rfl, rfl⟩, ok, q⟩
  · obtain ⟨its, rv, p, _⟩ := J.tuple (st_of (K := X.K) hq)
    exact wpAny_pyIter_tuple (show t.heap.IsTuple a its.toArray from p) ⟨_, _, _, _, G, rfl, J.kept (t' := t.toks) fun _ _ z => Heap.get?_push_of_some _ z, turn_tuple a _, ⟨_, Heap.get?_push_size _ rfl, rfl, rfl⟩, ok, q⟩
theorem pi_enRow {ta : TA} {p pos tpos : Pos} {elts : List Expr} {kk : Nat} (hg : Gl X "enumerate") (hm : X.mg "enumerate" = none) (ha : PA X [e] ta) (hs : starEach [e] X.env = [(false, eval e X.env)] := by rfl) :
    PI X (.Tuple elts kk tpos) (.Call (.Name "enumerate" p) [e] [] pos) (iEnRow X.K ta) := by
  refine ⟨fun pins s σ H R I h => Call_ (ld_blt I hg hm boot_enumerate (PyProof.Rows.callWith_type1 (thn (ha.run pos pins s σ H _ I h) fun us t y => ?_) hs rfl))⟩
  obtain ⟨vs, G, J, r1, a, xs, rfl, y⟩ := y
  have ok : ∀ b ∈ [t.heap.objs.size + 1, t.heap.objs.size], FpOk X pins G b := fun b hb => by
    have big : t.heap.objs.size ≤ b := by
      rcases (show b = t.heap.objs.size + 1 ∨ b = t.heap.objs.size by simpa using hb) with z | z
      · rw [z]; exact Nat.le_add_right _ _
      · rw [z]; exact Nat.le_refl _
    exact J.fpOk big (J.hok.fresh big)
  cases r1 with
  | cons r rr =>
    cases rr
    cases r
    rcases y with ⟨hq, q⟩ | ⟨hq, q⟩
    · obtain ⟨its, rv, tp, _⟩ := J.list (sq_of (K := X.K) hq)
      exact call_enumerate_list tp.isList fun g he hit hsz hk => wpAny_pyIter_enum he ⟨_, _, _, _, G, rfl, J.kept (t' := t.toks) hk, turn_enum a (t.heap.objs.size + 1) t.heap.objs.size, ⟨⟨.none, he⟩, hit, Nat.succ_ne_self _⟩, ok, q⟩
    · obtain ⟨its, rv, tp, _⟩ := J.tuple (st_of (K := X.K) hq)
      exact EN.call_t tp fun g he hit hsz hk => wpAny_pyIter_enum he ⟨_, _, _, _, G, rfl, J.kept (t' := t.toks) hk, EN.turn_t a (t.heap.objs.size + 1) t.heap.objs.size, ⟨⟨.none, he⟩, hit, Nat.succ_ne_self _⟩, ok, q⟩
end
section
variable {K : PySem.W.Frag} {σ : L2.St} {H H' : Hp} {te ta tb tl : TE} {t : TT} {r : R2} {v x : V} {D : Ends} {tz tu : TS} {Q : VK}
theorem el_lcRow {a : Addr} {xs : List V} {j : Nat} {vs : List Nat} (f : Nat → Bool) (v : Nat → V) (h : Ev tl σ H (.ref a)) (hx : RowAt K H a xs) (hz : xs.length ≤ 40000) (hw : ∀ x, wipe ((wipe σ vs).set j (some x)) vs = wipe σ vs)
    (ht : ∀ (i : Nat) (x : V) H1, Ex H H1 → xs[i]? = some x → EvT t ((wipe σ vs).set j (some x)) H1 (f i)) (he : ∀ (i : Nat) (x : V) H1, Ex H H1 → xs[i]? = some x → f i = true → Ev te ((wipe σ vs).set j (some x)) H1 (v i)) :
    EvL (tLc (iRow K tl) (gName j) t te vs) σ H (given xs.length f v) := fun H0 e Q q => h H0 e _ fun H1 e1 => by
  have tn : ∀ (i : Nat) (x : V) {Dl : Addr} (H2 : Hp), xs[i]? = some x → Cw H1 f v Dl i H2 → _ := fun i x {Dl} H2 hi p => And.intro (hw x) (cw_turn (t := t) (te := te) (σ2 := (wipe σ vs).set j (some x)) p (by have := (List.getElem?_eq_some_iff.mp hi).1; omega) (ht i x H1 (e.trans e1) hi) (fun hf => he i x H1 (e.trans e1) hi hf))
  rcases hx.ex (e.trans e1) with h1 | h1
  · exact ⟨a, xs, rfl, .inl ⟨h1, fun Dl hD => lc_list (xs := xs) (Cw H1 f v Dl) ⟨hD, Ex.new hD, upd_same⟩ (fun i H2 _ p => sq_of (p.2.1 _ _ h1)) (fun i x H2 hi p => tn i x H2 hi p) (fun H2 p => q Dl H2 (fresh_back e1 p.1) (e1.trans p.2.1) p.2.2)⟩⟩
  · exact ⟨a, xs, rfl, .inr ⟨h1, fun Dl hD => lc_tup (xs := xs) (Cw H1 f v Dl) ⟨hD, Ex.new hD, upd_same⟩ (fun i H2 _ p => st_of (p.2.1 _ _ h1)) (fun i x H2 hi p => tn i x H2 hi p) (fun H2 p => q Dl H2 (fresh_back e1 p.1) (e1.trans p.2.1) p.2.2)⟩⟩
theorem tup2 {p : Addr} {a b : V} (h : SqT K H p [a, b]) {i j : Nat} {Q : L2.St → Hp → Prop} (q : Q ((σ.set i (some a)).set j (some b)) H) : gTup K 2 (gCons (gName i) (gCons (gName j) gNil)) (.ref p) σ H Q := ⟨p, _, rfl, h, rfl, _, _, rfl, _, _, rfl, rfl, q⟩
theorem tup3 {p : Addr} {a b c : V} (h : SqT K H p [a, b, c]) {i j k : Nat} {Q : L2.St → Hp → Prop} (q : Q (((σ.set i (some a)).set j (some b)).set k (some c)) H) : gTup K 3 (gCons (gName i) (gCons (gName j) (gCons (gName k) gNil))) (.ref p) σ H Q := ⟨p, _, rfl, h, rfl, _, _, rfl, _, _, rfl, _, _, rfl, rfl, q⟩
theorem for_enT {a : Addr} {xs : List V} {g : TG} (Pv : Nat → L2.St → Hp → Prop) (h0 : Pv 0 σ H) (hl : ∀ i σ H, Pv i σ H → SqT K H a xs)
    (hs : ∀ i x σ H T, xs[i]? = some x → Pv i σ H → H T = none → g (.ref T) σ (upd H T (.tup [.int (i : Nat), x])) fun σ2 H2 => tu { D with nx := Pv (i + 1), ct := Pv (i + 1), bk := D.nx } σ2 H2) (hd : ∀ σ H, Pv xs.length σ H → D.nx σ H) :
    ∃ W : Nat → Nat → L2.St → Hp → Prop, (∃ m, W 0 m σ H) ∧ ∀ i m σ H, W i m σ H → ((EN.Iet K a).stop i H ∧ D.nx σ H) ∨ ((EN.Iet K a).go i H ∧ ∃ N : L2.St → Hp → Prop, (∀ σ' H', N σ' H' → ∃ m', m' < m ∧ W (i + 1) m' σ' H') ∧ ∀ x H', (EN.Iet K a).yld i H x H' → g x σ H' fun σ2 H2 => tu { D with nx := N, ct := N, bk := D.nx } σ2 H2) := by
  refine ⟨fun i m σ H => m = xs.length - i ∧ i ≤ xs.length ∧ Pv i σ H, ⟨_, rfl, Nat.zero_le _, h0⟩, fun i m σ H hW => ?_⟩
  obtain ⟨em, hi, p⟩ := hW
  have q := hl i σ H p
  by_cases hlt : i < xs.length
  · refine .inr ⟨⟨xs, xs[i], q, List.getElem?_eq_getElem hlt⟩, Pv (i + 1), fun σ' H' p' => ⟨xs.length - (i + 1), by omega, rfl, hlt, p'⟩, fun v H' y => ?_⟩
    obtain ⟨T, x, e1, e2, e3, e4⟩ := y
    subst e1 e3
    exact hs i x σ H T (e4 xs q) p e2
  · obtain rfl : i = xs.length := by omega
    exact .inl ⟨⟨xs, q, Nat.le_refl _⟩, hd σ H p⟩
/-- for i, x in enumerate(a row) -/
theorem s_forRow {a : Addr} {xs : List V} {tl : TE} {j k : Nat} (h : Ev tl σ H (.ref a)) (hx : RowAt K H a xs) (Pv : Nat → L2.St → Hp → Prop) (h0 : ∀ H1, Ex H H1 → Pv 0 σ H1) (hl : ∀ i σ' H', Pv i σ' H' → Ex H H')
    (hs : ∀ i x σ' H' H2, xs[i]? = some x → Pv i σ' H' → Ex H' H2 → tu { D with nx := Pv (i + 1), ct := Pv (i + 1), bk := D.nx } ((σ'.set j (some (.int (i : Nat)))).set k (some x)) H2) (hd : ∀ σ' H', Pv xs.length σ' H' → D.nx σ' H') :
    tFor (iEnRow K (tCons tl tNil)) (gTup K 2 (gCons (gName j) (gCons (gName k) gNil))) tu D σ H := h H (Ex.refl H) _ fun H1 e => by
  rcases id hx with h1 | h1
  · exact ⟨a, xs, rfl, .inl ⟨e _ _ h1, for_enumX Pv (h0 H1 e) (fun i σ' H' p => sq_of (hl i σ' H' p _ _ h1)) (fun i x σ' H' T hi hp hT => tup2 (st_of upd_same) (hs i x σ' H' _ hi hp (Ex.new hT))) hd⟩⟩
  · exact ⟨a, xs, rfl, .inr ⟨e _ _ h1, for_enT Pv (h0 H1 e) (fun i σ' H' p => st_of (hl i σ' H' p _ _ h1)) (fun i x σ' H' T hi hp hT => tup2 (st_of upd_same) (hs i x σ' H' _ hi hp (Ex.new hT))) hd⟩⟩
theorem q_forRow {a : Addr} {xs : List V} {tl : TE} {j k : Nat} (h : Ev tl σ H (.ref a)) (hx : RowAt K H a xs) (Pv : Nat → L2.St → Hp → Prop) (h0 : ∀ H1, Ex H H1 → Pv 0 σ H1) (hl : ∀ i σ' H', Pv i σ' H' → Ex H H')
    (hs : ∀ i x σ' H' H2, xs[i]? = some x → Pv i σ' H' → Ex H' H2 → tu { D with nx := Pv (i + 1), ct := Pv (i + 1), bk := tz D } ((σ'.set j (some (.int (i : Nat)))).set k (some x)) H2) (hd : ∀ σ' H', Pv xs.length σ' H' → tz D σ' H') :
    tSeq (tFor (iEnRow K (tCons tl tNil)) (gTup K 2 (gCons (gName j) (gCons (gName k) gNil))) tu) tz D σ H := s_forRow (D := { D with nx := tz D }) h hx Pv h0 hl hs hd
/-- a comprehension over a row, each item's answer as told -/
theorem lc_eachRow {a : Addr} {xs : List V} {g : TG} {vs : List Nat} (Pe : Nat → V → Hp → Prop) (mono : ∀ {i : Nat} {y : V} {H H' : Hp} {D : Addr} {l : List V}, H D = some (.lst l) → Exa D H H' → Pe i y H → Pe i y H')
    (h : Ev tl σ H (.ref a)) (hx : RowAt K H a xs) (hz : xs.length ≤ 40000)
    (he : ∀ i x H1, xs[i]? = some x → Ex H H1 → ∀ Q : VK, (∀ y H2, Ex H1 H2 → Pe i y H2 → Q y H2) → g x (wipe σ vs) H1 fun σ2 H2 => wipe σ2 vs = wipe σ vs ∧ te σ2 H2 Q)
    (k : ∀ Dl ys H1, H Dl = none → Ex H H1 → H1 Dl = some (.lst ys) → ys.length = xs.length → (∀ i y, ys[i]? = some y → Pe i y H1) → Q (.ref Dl) H1) : tLc (iRow K tl) g tYes te vs σ H Q :=
  h H (Ex.refl H) _ fun H1 e1 => by
    have bg : ∀ {Dl : Addr}, H1 Dl = none → (fun (i : Nat) (H2 : Hp) => Ex H1 H2 ∧ ∃ ys, H2 Dl = some (.lst ys) ∧ ys.length = i ∧ ∀ (j : Nat) y, ys[j]? = some y → Pe j y H2) 0 (upd H1 Dl (.lst [])) := fun hD => ⟨Ex.new hD, [], upd_same, rfl, fun j y hy => by simp at hy⟩
    have go : ∀ {Dl : Addr}, H1 Dl = none → ∀ (i : Nat) (x : V) (H2 : Hp), xs[i]? = some x → (Ex H1 H2 ∧ ∃ ys, H2 Dl = some (.lst ys) ∧ ys.length = i ∧ ∀ (j : Nat) y, ys[j]? = some y → Pe j y H2) →
        g x (wipe σ vs) H2 fun σ2 H3 => wipe σ2 vs = wipe σ vs ∧ te σ2 H3 fun y H4 => ∃ acc, H4 Dl = some (.lst acc) ∧ acc.length < sizeLine ∧ (Ex H1 (upd H4 Dl (.lst (acc ++ [y]))) ∧ ∃ ys', (upd H4 Dl (.lst (acc ++ [y]))) Dl = some (.lst ys') ∧ ys'.length = i + 1 ∧ ∀ (j : Nat) y', ys'[j]? = some y' → Pe j y' (upd H4 Dl (.lst (acc ++ [y])))) := fun {Dl} hD i x H2 hi p => by
      obtain ⟨p1, ys, p2, p3, p4⟩ := p
      have hil := (List.getElem?_eq_some_iff.mp hi).1
      refine he i x H2 hi (e1.trans p1) _ fun y H4 e4 hy => ?_
      have hxa : Exa Dl H4 (upd H4 Dl (.lst (ys ++ [y]))) := fun b o hb hbo => by rw [upd_ne hb]; exact hbo
      refine ⟨ys, e4 _ _ p2, sz_lt (by omega), (p1.trans e4).mut hD, _, upd_same, by rw [List.length_append, p3]; rfl, fun j y' hy' => ?_⟩
      by_cases hj : j < ys.length
      · rw [List.getElem?_append_left hj] at hy'
        exact mono (e4 _ _ p2) hxa (mono p2 (Exa.of e4) (p4 j y' hy'))
      · have : j = ys.length := by
          have := (List.getElem?_eq_some_iff.mp hy').1
          rw [List.length_append] at this
          simp at this
          omega
        subst this
        rw [List.getElem?_append_right (Nat.le_refl _), Nat.sub_self] at hy'
        obtain rfl : y = y' := by simpa using hy'
        rw [p3]
        exact mono (e4 _ _ p2) hxa hy
    have ends : ∀ {Dl : Addr}, H1 Dl = none → ∀ H2, (Ex H1 H2 ∧ ∃ ys, H2 Dl = some (.lst ys) ∧ ys.length = xs.length ∧ ∀ (j : Nat) y, ys[j]? = some y → Pe j y H2) → Q (.ref Dl) H2 := fun {Dl} hD H2 p => by
      obtain ⟨p1, ys, p2, p3, p4⟩ := p
      exact k Dl ys H2 (fresh_back e1 hD) (e1.trans p1) p2 p3 p4
    rcases id hx with h1 | h1
    · exact ⟨a, xs, rfl, .inl ⟨e1 _ _ h1, fun Dl hD => lc_list (xs := xs) _ (bg hD) (fun i H2 _ p => sq_of ((e1.trans p.1) _ _ h1)) (go hD) (ends hD)⟩⟩
    · exact ⟨a, xs, rfl, .inr ⟨e1 _ _ h1, fun Dl hD => lc_tup (xs := xs) _ (bg hD) (fun i H2 _ p => st_of ((e1.trans p.1) _ _ h1)) (go hD) (ends hD)⟩⟩
end
end N8

set_option maxHeartbeats 4000000
set_option autoImplicit false
namespace N8
open PySem PySem.Spec PyProof.Rows L2 Evl
open SX (S)
abbrev sIsInstruction : Stmt := topS 37
theorem scIsInstruction : FnScope ["thing", "sorts", "right", "argument", "sort"] ["thing"] (L2.defScope sIsInstruction) := ⟨rfl, rfl, rfl, by decide +kernel, rfl, by decide +kernel, by decide +kernel⟩
abbrev sHasSort : Stmt := topS 38
theorem scHasSort : FnScope ["thing", "sort", "low", "high", "pair"] ["thing", "sort"] (L2.defScope sHasSort) := ⟨rfl, rfl, rfl, by decide +kernel, rfl, by decide +kernel, by decide +kernel⟩
abbrev sIsTold : Stmt := topS 39
theorem scIsTold : FnScope ["thing", "sort"] ["thing", "sort"] (L2.defScope sIsTold) := ⟨rfl, rfl, rfl, by decide +kernel, rfl, by decide +kernel, by decide +kernel⟩
abbrev sIsPair : Stmt := topS 40
theorem scIsPair : FnScope ["thing"] ["thing"] (L2.defScope sIsPair) := ⟨rfl, rfl, rfl, by decide +kernel, rfl, by decide +kernel, by decide +kernel⟩
abbrev sAgrees : Stmt := topS 42
theorem scAgrees : FnScope ["row"] ["row"] (L2.defScope sAgrees) := ⟨rfl, rfl, rfl, by decide +kernel, rfl, by decide +kernel, by decide +kernel⟩
abbrev sAscends : Stmt := topS 43
theorem scAscends : FnScope ["row", "pairs", "k"] ["row"] (L2.defScope sAscends) := ⟨rfl, rfl, rfl, by decide +kernel, rfl, by decide +kernel, by decide +kernel⟩
abbrev sHasRightPairs : Stmt := topS 44
theorem scHasRightPairs : FnScope ["row", "pair"] ["row"] (L2.defScope sHasRightPairs) := ⟨rfl, rfl, rfl, by decide +kernel, rfl, by decide +kernel, by decide +kernel⟩
abbrev sTargets : Stmt := topS 45
theorem scTargets : FnScope ["row", "pair"] ["row"] (L2.defScope sTargets) := ⟨rfl, rfl, rfl, by decide +kernel, rfl, by decide +kernel, by decide +kernel⟩
abbrev sKept : Stmt := topS 46
theorem scKept : FnScope ["row"] ["row"] (L2.defScope sKept) := ⟨rfl, rfl, rfl, by decide +kernel, rfl, by decide +kernel, by decide +kernel⟩

/-! ### rows of things -/
inductive All2 {α : Type} (R : V → α → Prop) : List V → List α → Prop where
  | nil : All2 R [] []
  | cons {v : V} {m : α} {vs : List V} {ms : List α} : R v m → All2 R vs ms → All2 R (v :: vs) (m :: ms)
section
variable {α : Type} {R R' : V → α → Prop} {vs : List V} {ms : List α}
theorem All2.imp (h : All2 R vs ms) (f : ∀ v m, R v m → R' v m) : All2 R' vs ms := by
  induction h with
  | nil => exact .nil
  | cons a _ ih => exact .cons (f _ _ a) ih
theorem All2.len (h : All2 R vs ms) : vs.length = ms.length := by
  induction h with
  | nil => rfl
  | cons _ _ ih => exact congrArg Nat.succ ih
theorem All2.app {v : V} {m : α} (h : All2 R vs ms) (k : R v m) : All2 R (vs ++ [v]) (ms ++ [m]) := by
  induction h with
  | nil => exact .cons k .nil
  | cons a _ ih => exact .cons a ih
theorem All2.get (h : All2 R vs ms) : ∀ {i : Nat} {v : V}, vs[i]? = some v → ∃ m, ms[i]? = some m ∧ R v m := by
  induction h with
  | nil => exact fun h => by simp at h
  | cons a _ ih =>
    intro i v h
    cases i with
    | zero =>
      obtain rfl := Option.some.inj (show some _ = some v from h)
      exact ⟨_, rfl, a⟩
    | succ i => exact ih h
theorem All2.mk : ∀ {vs : List V} {ms : List α}, vs.length = ms.length → (∀ (i : Nat) v m, vs[i]? = some v → ms[i]? = some m → R v m) → All2 R vs ms
  | [], [], _, _ => .nil
  | v :: vs, m :: ms, e, h => .cons (h 0 v m rfl rfl) (All2.mk (Nat.succ.inj e) fun i v m h1 h2 => h (i + 1) v m h1 h2)
  | [], _ :: _, e, _ => nomatch e
  | _ :: _, [], e, _ => nomatch e
theorem All2.map {ys : List V} (h : All2 R vs ms) : ∀ {ys : List V}, ys.length = vs.length → (∀ (i : Nat) x y, vs[i]? = some x → ys[i]? = some y → ∀ m, R x m → R' y m) → All2 R' ys ms := by
  induction h with
  | nil =>
    intro ys e _
    obtain rfl := List.eq_nil_of_length_eq_zero e
    exact .nil
  | cons a _ ih =>
    intro ys e f
    cases ys with
    | nil => cases e
    | cons y ys => exact .cons (f 0 _ _ rfl rfl _ a) (ih (Nat.succ.inj e) fun i x y h1 h2 m hm => f (i + 1) x y h1 h2 m hm)
end
/-! ### instructions -/
inductive Ins where
  | wd (z : Str) | jp (z : Str) (g : Nat) | sw (ps : List (Int × Nat)) (o : Nat) | ic (g : Nat) | il | iv | nw
def ones : List Str := ["nop", "ireturn", "return", "athrow", "areturn", "lreturn", "dup", "pop"]
def jmps : List Str := ["goto", "ifeq", "ifnull", "if_icmplt", "if_acmpne", "ifnonnull", "ifge", "if_icmple", "if_acmpeq"]
/-- all but the well and the objects of classes stands -/
def Kp (a : Addr) (H H' : Hp) : Prop := ∀ b o, b ≠ a → (∀ C d fs, o ≠ .ins C d fs) → H b = some o → H' b = some o
theorem Kp.of {a : Addr} {H H' : Hp} (e : Ex H H') : Kp a H H' := fun b o _ _ h => e b o h
theorem Kp.exa {a : Addr} {H H' : Hp} (e : Exa a H H') : Kp a H H' := fun b o n _ h => e b o n h
theorem Kp.exi {a b C dx : Addr} {fs : List (Str × V)} {H H' : Hp} (h : H b = some (.ins C dx fs)) (e : Exa b H H') : Kp a H H' := fun c o _ k hc => e c o (fun z => by
  rw [z, h] at hc
  exact k _ _ _ (Option.some.inj hc).symm) hc
theorem Kp.trans {a : Addr} {H H1 H2 : Hp} (x : Kp a H H1) (y : Kp a H1 H2) : Kp a H H2 := fun b o n k h => y b o n k (x b o n k h)
def PrAt (a : Addr) (H : Hp) (v : V) (q : Int × Nat) : Prop := ∃ t, v = .ref t ∧ t ≠ a ∧ H t = some (.tup [.int q.1, .int (q.2 : Nat)])
def SqAt (H : Hp) (p : Addr) (xs : List V) : Prop := H p = some (.lst xs) ∨ H p = some (.tup xs)
theorem SqAt.kp {a p : Addr} {xs : List V} {H H' : Hp} (e : Kp a H H') (n : p ≠ a) (h : SqAt H p xs) : SqAt H' p xs := h.imp (e _ _ n fun _ _ _ z => by cases z) (e _ _ n fun _ _ _ z => by cases z)
theorem PrAt.kp {a : Addr} {H H' : Hp} {v : V} {q : Int × Nat} (e : Kp a H H') (h : PrAt a H v q) : PrAt a H' v q := by
  obtain ⟨t, rfl, n, ht⟩ := h
  exact ⟨t, rfl, n, e _ _ n (fun _ _ _ z => by cases z) ht⟩
/-- what stands in the tuple -/
def InsP (a : Addr) (H : Hp) : Ins → List V → Prop
  | .wd z, xs => xs = [.str z] ∧ z ∈ ones
  | .jp z g, xs => xs = [.str z, .int (g : Nat)] ∧ z ∈ jmps
  | .sw ps o, xs => ∃ p vs, xs = [.str "switch", .ref p, .int (o : Nat)] ∧ p ≠ a ∧ SqAt H p vs ∧ All2 (PrAt a H) vs ps
  | .ic g, xs => xs = [.str "iconst", .int (g : Nat)]
  | .il, xs => xs = [.str "iload", .int 3]
  | .iv, xs => xs = [.str "invokestatic", .str "A", .str "go", .str "()V"]
  | .nw, xs => xs = [.str "new", .str "A"]
def InsAt (a : Addr) (H : Hp) (v : V) (r : Ins) : Prop := ∃ t xs, v = .ref t ∧ t ≠ a ∧ H t = some (.tup xs) ∧ InsP a H r xs
theorem InsP.kp {a : Addr} {H H' : Hp} {xs : List V} {r : Ins} (e : Kp a H H') (h : InsP a H r xs) : InsP a H' r xs := by
  cases r with
  | sw ps o =>
    obtain ⟨p, vs, h1, h2, h3, h4⟩ := h
    exact ⟨p, vs, h1, h2, h3.kp e h2, h4.imp fun v m k => k.kp e⟩
  | _ => exact h
theorem InsAt.kp {a : Addr} {H H' : Hp} {v : V} {r : Ins} (e : Kp a H H') (h : InsAt a H v r) : InsAt a H' v r := by
  obtain ⟨t, xs, rfl, n, ht, hp⟩ := h
  exact ⟨t, xs, rfl, n, e _ _ n (fun _ _ _ z => by cases z) ht, hp.kp e⟩
structure SwOk (N : Nat) (ps : List (Int × Nat)) (o : Nat) : Prop where
  len : ps.length ≤ 10
  asc : ps.Pairwise fun x y => x.1 < y.1
  ok : ∀ q ∈ ps, -1000 ≤ q.1 ∧ q.1 ≤ 1000 ∧ q.2 < N ∧ q.2 ≠ o
  o : o < N
def InsOk (N : Nat) : Ins → Prop
  | .jp _ g => g < N
  | .sw ps o => SwOk N ps o
  | .ic g => g < N
  | _ => True
def Ins.word : Ins → Str
  | .wd z => z
  | .jp z _ => z
  | .sw _ _ => "switch"
  | .ic _ => "iconst"
  | .il => "iload"
  | .iv => "invokestatic"
  | .nw => "new"
def Ins.sorts : Ins → List Str
  | .wd _ => []
  | .jp _ _ => ["jump"]
  | .sw _ _ => ["pairs", "jump"]
  | .ic _ => ["int"]
  | .il => ["local"]
  | .iv => ["class", "name", "method"]
  | .nw => ["class"]
def Ins.goals : Ins → List Int
  | .jp _ g => [(g : Int)]
  | .sw ps o => ps.map (fun q => (q.2 : Int)) ++ [(o : Int)]
  | _ => []
def wordsL : List (Str × List Str) := (ones.map fun z => ((z, []) : Str × List Str)) ++ ((jmps.map fun z => ((z, ["jump"]) : Str × List Str)) ++ ([("switch", ["pairs", "jump"]), ("iconst", ["int"]), ("iload", ["local"]), ("invokestatic", ["class", "name", "method"]), ("new", ["class"])] : List (Str × List Str)))
theorem InsP.mem {a : Addr} {H : Hp} {xs : List V} {r : Ins} (h : InsP a H r xs) : (r.word, r.sorts) ∈ wordsL := by
  cases r with
  | wd z => exact List.mem_append_left _ (List.mem_map_of_mem (f := fun z => ((z, []) : Str × List Str)) h.2)
  | jp z g => exact List.mem_append_right _ (List.mem_append_left _ (List.mem_map_of_mem (f := fun z => ((z, ["jump"]) : Str × List Str)) h.2))
  | sw ps o => exact List.mem_append_right _ (List.mem_append_right _ (show _ ∈ ([("switch", ["pairs", "jump"]), ("iconst", ["int"]), ("iload", ["local"]), ("invokestatic", ["class", "name", "method"]), ("new", ["class"])] : List (Str × List Str)) from by simp [Ins.word, Ins.sorts]))
  | ic g => exact List.mem_append_right _ (List.mem_append_right _ (show _ ∈ ([("switch", ["pairs", "jump"]), ("iconst", ["int"]), ("iload", ["local"]), ("invokestatic", ["class", "name", "method"]), ("new", ["class"])] : List (Str × List Str)) from by simp [Ins.word, Ins.sorts]))
  | il => exact List.mem_append_right _ (List.mem_append_right _ (show _ ∈ ([("switch", ["pairs", "jump"]), ("iconst", ["int"]), ("iload", ["local"]), ("invokestatic", ["class", "name", "method"]), ("new", ["class"])] : List (Str × List Str)) from by simp [Ins.word, Ins.sorts]))
  | iv => exact List.mem_append_right _ (List.mem_append_right _ (show _ ∈ ([("switch", ["pairs", "jump"]), ("iconst", ["int"]), ("iload", ["local"]), ("invokestatic", ["class", "name", "method"]), ("new", ["class"])] : List (Str × List Str)) from by simp [Ins.word, Ins.sorts]))
  | nw => exact List.mem_append_right _ (List.mem_append_right _ (show _ ∈ ([("switch", ["pairs", "jump"]), ("iconst", ["int"]), ("iload", ["local"]), ("invokestatic", ["class", "name", "method"]), ("new", ["class"])] : List (Str × List Str)) from by simp [Ins.word, Ins.sorts]))
theorem InsP.head {a : Addr} {H : Hp} {xs : List V} {r : Ins} (h : InsP a H r xs) : ∃ ys, xs = .str r.word :: ys ∧ ys.length = r.sorts.length := by
  cases r with
  | wd z => exact ⟨[], h.1, rfl⟩
  | jp z g => exact ⟨_, h.1, rfl⟩
  | sw ps o =>
    obtain ⟨p, vs, h1, _⟩ := h
    exact ⟨_, h1, rfl⟩
  | ic g => exact ⟨_, h, rfl⟩
  | il => exact ⟨_, h, rfl⟩
  | iv => exact ⟨_, h, rfl⟩
  | nw => exact ⟨_, h, rfl⟩
/-- the table of words -/
def Args3 (K : PySem.W.Frag) (w : World) (mg : Str → Option Value) : Prop := ∃ a es n, mg "ARGUMENTS" = some (.ref a) ∧ KDict K w a es n ∧ ∀ q ∈ wordsL, ∃ t, PySem.W.nsIn K a q.1 = some (some (.ref t)) ∧ ∀ H, SqT K H t (q.2.map V.str)
structure Bnds3 (K : PySem.W.Frag) (w : World) (mg : Str → Option Value) : Prop where
  ex : ∃ a es n ti tl, mg "BOUNDS" = some (.ref a) ∧ KDict K w a es n ∧ PySem.W.nsIn K a "int" = some (some (.ref ti)) ∧ (∀ H, SqT K H ti [.int (-2147483648), .int 2147483647]) ∧ PySem.W.nsIn K a "local" = some (some (.ref tl)) ∧ (∀ H, SqT K H tl [.int 0, .int 255]) ∧
    ∀ z ∈ (["jump", "pairs", "class", "name", "method"] : List Str), PySem.W.nsIn K a z = some none
def RetT (H : Hp) (Q : VK) : Prop := RetV (.bl true) H Q
/-- an argument of such a sort -/
inductive SortOk (a : Addr) (H : Hp) : V → Str → Prop where
  | jump (i : Int) : SortOk a H (.int i) "jump"
  | int (i : Int) : -2147483648 ≤ i → i ≤ 2147483647 → SortOk a H (.int i) "int"
  | loc : SortOk a H (.int 3) "local"
  | pairs {p : Addr} {vs : List V} {ps : List (Int × Nat)} : SqAt H p vs → All2 (PrAt a H) vs ps → ps.length ≤ 10 → (∀ q ∈ ps, -1000 ≤ q.1 ∧ q.1 ≤ 1000) → SortOk a H (.ref p) "pairs"
  | cls : SortOk a H (.str "A") "class"
  | nam : SortOk a H (.str "go") "name"
  | met : SortOk a H (.str "()V") "method"
def spSort : Sp := fun vs H Q _ => ∃ (a : Addr) (x : V) (z : Str), vs = [x, .str z] ∧ SortOk a H x z ∧ RetV (.bl true) H Q
def spSortI : Sp := fun vs H Q _ => ∃ i : Int, vs = [.int i, .str "int"] ∧ -2147483648 ≤ i ∧ i ≤ 2147483647 ∧ RetV (.bl true) H Q
def toldL : List (Str × Str) := [("A", "class"), ("go", "name"), ("()V", "method")]
def spTold : Sp := fun vs H Q _ => ∃ q ∈ toldL, vs = [.str q.1, .str q.2] ∧ RetV (.bl true) H Q
def spPair : Sp := fun vs H Q _ => ∃ (a : Addr) (v : V) (q : Int × Nat), vs = [v] ∧ PrAt a H v q ∧ -1000 ≤ q.1 ∧ q.1 ≤ 1000 ∧ RetV (.bl true) H Q
def spIns : Sp := fun vs H Q _ => ∃ (a : Addr) (v : V) (r : Ins) (N : Nat), vs = [v] ∧ InsAt a H v r ∧ InsOk N r ∧ N ≤ 1000 ∧ RetV (.bl true) H Q
theorem pe_never {X : Cx} {e : Expr} : PE X e (fun _ _ _ => False) := ⟨fun _ _ _ _ _ _ h => h.elim⟩
theorem pss_never {X : Cx} {l : List Stmt} : PSs X l (fun _ _ _ => False) := ⟨fun _ _ _ _ _ _ h => h.elim⟩
section
variable {K : PySem.W.Frag} {σ : L2.St} {H H' : Hp} {te ta tb tl : TE} {t : TT} {r : R2} {v x : V} {D : Ends} {tz tu : TS} {Q : VK}
theorem ev_eqZ {y z : Str} {b : Bool} (h : Ev te σ H (.str y)) (e : decide (y = z) = b) : Ev (tOp rEq te (tC (.str z))) σ H (.bl b) :=
  ev_is (ev_op h ev_c (rv_eq rfl)) ((bl_iff ⟨fun e => V.str.inj e, fun e => by rw [e]⟩).trans (congrArg V.bl e))
theorem ev_neZ {y z : Str} {b : Bool} (h : Ev te σ H (.str y)) (e : (!decide (y = z)) = b) : Ev (tOp rNe te (tC (.str z))) σ H (.bl b) :=
  ev_is (ev_op h ev_c (rv_ne rfl)) (congrArg V.bl ((congrArg not (decide_eq_decide.mpr ⟨fun e => V.str.inj e, fun e => by rw [e]⟩)).trans e))
theorem ev_ix0 {p : Addr} {i : Nat} {j : Int} {xs : List V} (hi : σ[i]? = some (some (.ref p))) (hp : H p = some (.tup xs)) (hx : atI xs j = some v) : Ev (tOp (rIxT K) (tVar i) (tC (.int j))) σ H v := ev_op (ev_var hi) ev_c (rv_ixT (st_of hp) hx)
end
section
variable {P : Program} {w : World} {K : PySem.W.Frag} {mg : Str → Option Value} {base : Heap}
theorem ok_isTold {f : Addr} {fd : FuncData} (F : FnP K "_is_told" sIsTold f fd) (B : Bt mg) (c_is_name : Cl P w K mg base L2.CX0 2 "is_name" ["thing"] (spName K isNameL)) (c_is_class_name : Cl P w K mg base L2.CX0 3 "is_class_name" ["thing"] (spName K isClassL)) (c_is_method_descriptor : Cl P w K mg base L2.CX0 7 "is_method_descriptor" ["thing"] spMDesc) :
    FnOk P w K mg base L2.CX0 8 f fd ["thing", "sort"] spTold := by
  refine F.ok scIsTold (fun vs H Q E h => ?_) (fun cdv A outer s H vs Q E hr h => ?_)
  · obtain ⟨q, _, rfl, _⟩ := h
    rfl
  · obtain ⟨q, hq, rfl, k⟩ := h
    have c1 : ("A" : Str) = S [65] := by decide +kernel
    have c2 : ("go" : Str) = S [103, 111] := by decide +kernel
    have c3 : ("()V" : Str) = S [40, 41, 86] := by decide +kernel
    refine ⟨_, PSs.nox (pss_cons (ps_if (pt_cmpR op_eq (pv 1) pe_str (nomark _)) (pss_one (ps_ret (pe_cl c_is_class_name hr (by decide) (by rfl) (pa_cons (pv 0) pa_nil)))) pss_nil) (pss_cons (ps_if (pt_cmpR op_eq (pv 1) pe_str (nomark _)) pss_never pss_nil) (pss_cons (ps_if (pt_cmpR op_eq (pv 1) pe_str (nomark _)) pss_never pss_nil) (pss_cons (ps_if (pt_cmpR op_eq (pv 1) pe_str (nomark _)) pss_never pss_nil) (pss_cons (ps_if (pt_cmpR op_eq (pv 1) pe_str (nomark _)) pss_never pss_nil) (pss_cons (ps_if (pt_cmpR op_eq (pv 1) pe_str (nomark _)) (pss_one (ps_ret (pe_cl c_is_method_descriptor hr (by decide) (by rfl) (pa_cons (pv 0) pa_nil)))) pss_nil) (pss_one (ps_ret (pe_or (pe_cl c_is_name hr (by decide) (by rfl) (pa_cons (pv 0) pa_nil)) (pe_one pe_never)))))))))), ?_⟩
    rcases List.mem_cons.mp hq with rfl | hq
    · refine q_when (b := true) (et_test (ev_eqZ (ev_var rfl) (by decide +kernel))) (fun _ H1 x1 => ?_) (fun e => by cases e)
      exact s_ret (ev_call (ea_cons (ev_var rfl) ea_nil) fun H2 e Q' q' E' => ⟨_, true, rfl, .inl ⟨[65], congrArg V.str c1, by decide, by decide +kernel⟩, q'⟩) fun H3 x3 => k H3 (x1.trans x3)
    refine q_when (b := false) (et_test (ev_eqZ (ev_var rfl) ?_)) (fun e => by cases e) fun _ H1 x1 => ?_
    · rcases List.mem_cons.mp hq with rfl | hq
      · decide +kernel
      · rw [List.mem_singleton.mp hq]
        decide +kernel
    refine q_when (b := false) (et_test (ev_eqZ (ev_var rfl) ?_)) (fun e => by cases e) fun _ H2 x2 => ?_
    · rcases List.mem_cons.mp hq with rfl | hq
      · decide +kernel
      · rw [List.mem_singleton.mp hq]
        decide +kernel
    refine q_when (b := false) (et_test (ev_eqZ (ev_var rfl) ?_)) (fun e => by cases e) fun _ H3 x3 => ?_
    · rcases List.mem_cons.mp hq with rfl | hq
      · decide +kernel
      · rw [List.mem_singleton.mp hq]
        decide +kernel
    refine q_when (b := false) (et_test (ev_eqZ (ev_var rfl) ?_)) (fun e => by cases e) fun _ H4 x4 => ?_
    · rcases List.mem_cons.mp hq with rfl | hq
      · decide +kernel
      · rw [List.mem_singleton.mp hq]
        decide +kernel
    refine q_when (b := false) (et_test (ev_eqZ (ev_var rfl) ?_)) (fun e => by cases e) fun _ H5 x5 => ?_
    · rcases List.mem_cons.mp hq with rfl | hq
      · decide +kernel
      · rw [List.mem_singleton.mp hq]
        decide +kernel
    have x15 := (((x1.trans x2).trans x3).trans x4).trans x5
    rcases List.mem_cons.mp hq with rfl | hq
    · refine q_when (b := false) (et_test (ev_eqZ (ev_var rfl) (by decide +kernel))) (fun e => by cases e) fun _ H6 x6 => ?_
      exact s_ret (ev_is (ev_orV (a := true) (b := false) (ev_call (ea_cons (ev_var rfl) ea_nil) fun H2 e Q' q' E' => ⟨_, true, rfl, .inl ⟨[103, 111], congrArg V.str c2, by decide, by decide +kernel⟩, q'⟩) fun e => by cases e) rfl) fun H7 x7 => k H7 ((x15.trans x6).trans x7)
    · obtain rfl := List.mem_singleton.mp hq
      refine q_when (b := true) (et_test (ev_eqZ (ev_var rfl) (by decide +kernel))) (fun _ H6 x6 => ?_) (fun e => by cases e)
      exact s_ret (ev_call (ea_cons (ev_var rfl) ea_nil) fun H2 e Q' q' E' => ⟨[40, 41, 86], [[86]], congrArg (fun z => [V.str z]) c3, by decide, by decide +kernel, q'⟩) fun H7 x7 => k H7 ((x15.trans x6).trans x7)
theorem ok_hasSortI {f : Addr} {fd : FuncData} (F : FnP K "_has_sort" sHasSort f fd) (B : Bt mg) (bn : Bnds3 K w mg) (c_is_within : Cl P w K mg base L2.CX0 2 "is_within" ["thing", "low", "high"] spWithin) :
    FnOk P w K mg base L2.CX0 3 f fd ["thing", "sort"] spSortI := by
  obtain ⟨aBN, es, nn, ti, tl, g_BOUNDS, kD, n1, h1, _, _, _⟩ := bn.ex
  refine F.ok scHasSort (fun vs H Q E h => ?_) (fun cdv A outer s H vs Q E hr h => ?_)
  · obtain ⟨i, rfl, _⟩ := h
    rfl
  · obtain ⟨i, rfl, h0, h9, q⟩ := h
    refine ⟨_, PSs.nox (pss_cons (ps_if (pt_cmpR (op_in_kd kD) (pv 1) (pe_glob (v := .ref aBN) (by rfl) g_BOUNDS rfl) rfl) (pss_cons (ps_asg (pe_ix ix_kdict (pe_glob (v := .ref aBN) (by rfl) g_BOUNDS rfl) (pv 1) (fun _ _ => rfl)) (pg_tup rfl (pgs_cons (pg_name (i := 2) scHasSort.nd rfl (.inl rfl)) (pgs_cons (pg_name (i := 3) scHasSort.nd rfl (.inl rfl)) pgs_nil))))
      (pss_one (ps_ret (pe_cl c_is_within hr (by decide) (by rfl) (pa_cons (pv 0) (pa_cons (pv 2) (pa_cons (pv 3) pa_nil))))))) pss_nil) pss_never), ?_⟩
    refine q_when (b := true) (et_test (ev_op (x := .str "int") (y := .ref aBN) (ev_var rfl) ev_c fun H2 e2 Q' q' => ⟨_, _, rfl, rfl, n1, q' H2 (Ex.refl H2)⟩)) (fun _ H1 x1 => ?_) (fun e => by cases e)
    refine ⟨.str "int", rfl, aBN, "int", .ref ti, rfl, rfl, ⟨es, nn, _, kD.at_, kD.lit, n1, rfl⟩, tup2 (h1 _) ?_⟩
    exact s_ret (ev_call (ea_cons (ev_var rfl) (ea_cons (ev_var rfl) (ea_cons (ev_var rfl) ea_nil))) fun H2 e Q' q' E' => ⟨_, _, _, true, rfl, .inl ⟨i, rfl, by rw [decide_eq_true h0, decide_eq_true h9]; rfl⟩, q'⟩) fun H3 x3 => q H3 (x1.trans x3)
theorem ok_isPair {f : Addr} {fd : FuncData} (F : FnP K "_is_pair" sIsPair f fd) (B : Bt mg) (c_is_tuple_of : Cl P w K mg base L2.CX0 1 "is_tuple_of" ["thing", "many"] (spTupOf K)) (c_has_sort : Cl P w K mg base L2.CX0 3 "_has_sort" ["thing", "sort"] spSortI) (c_is_integer : Cl P w K mg base L2.CX0 1 "is_integer" ["thing"] spInt) :
    FnOk P w K mg base L2.CX0 4 f fd ["thing"] spPair := by
  refine F.ok scIsPair (fun vs H Q E h => ?_) (fun cdv A outer s H vs Q E hr h => ?_)
  · obtain ⟨a, v, q, rfl, _⟩ := h
    rfl
  · obtain ⟨a, v, q, rfl, ⟨t, rfl, _, ht⟩, h0, h9, k⟩ := h
    refine ⟨_, PSs.nox (pss_one (ps_ret (pe_and (pe_cl c_is_tuple_of hr (by decide) (by rfl) (pa_cons (pv 0) (pa_cons pe_int pa_nil))) (pe_and (pe_cl c_has_sort hr (by decide) (by rfl) (pa_cons (pe_ix ix_tup (pv 0) pe_int (fun _ _ => rfl)) (pa_cons pe_str pa_nil))) (pe_one (pe_cl c_is_integer hr (by decide) (by rfl) (pa_cons (pe_ix ix_tup (pv 0) pe_int (fun _ _ => rfl)) pa_nil))))))), ?_⟩
    exact s_ret (ev_is (ev_andV (a := true) (b := true) (ev_call (ea_cons (ev_var rfl) (ea_cons ev_c ea_nil)) fun H1 e Q' q' E' => ⟨t, [.int q.1, .int (q.2 : Nat)], rfl, e _ _ ht, (by show 2 ≤ 1000; decide), q'⟩) fun _ => ev_is (ev_andV (a := true) (b := true) (ev_call (ea_cons (ev_ix0 rfl ht rfl) (ea_cons ev_c ea_nil)) fun H1 e Q' q' E' => ⟨q.1, rfl, by omega, by omega, q'⟩) fun _ => ev_call (ea_cons (ev_ix0 rfl ht rfl) ea_nil) fun H1 e Q' q' E' => ⟨_, true, rfl, .int _, q'⟩) rfl) rfl) k
end
end N8

set_option maxHeartbeats 4000000
set_option autoImplicit false
namespace N8
open PySem PySem.Spec PyProof.Rows L2 Evl
open SX (S)
def rIxRow (K : PySem.W.Frag) : R2 := fun x y H Q => rIxL K x y H Q ∨ rIxT K x y H Q
theorem ix_row {X : Cx} : IxR X (rIxRow X.K) := fun value slice pins s σ H x y v u Q I rx ry h hs => h.elim (fun h => ix_list value slice pins s σ H x y v u Q I rx ry h hs) fun h => ix_tup value slice pins s σ H x y v u Q I rx ry h hs
section
variable {K : PySem.W.Frag} {σ : L2.St} {H H' : Hp} {te ta tb tl : TE} {t : TT} {r : R2} {v x : V} {D : Ends} {tz tu : TS} {Q : VK}
theorem rv_ixRow {p : Addr} {xs : List V} {i : Int} (h : RowAt K H p xs) (ha : atI xs i = some v) : RV (rIxRow K) (.ref p) (.int i) H v := fun H1 e Q q => (h.ex e).elim (fun h => .inl ⟨p, xs, i, v, rfl, rfl, sq_of h, ha, q H1 (Ex.refl H1)⟩) fun h => .inr ⟨p, xs, i, v, rfl, rfl, st_of h, ha, q H1 (Ex.refl H1)⟩
theorem ev_lenRow {p : Addr} {xs : List V} (ha : Ev ta σ H (.ref p)) (h : RowAt K H p xs) : Ev (tCB (rLenS K) (tCons ta tNil)) σ H (.int (xs.length : Int)) := fun H1 e Q q =>
  ha H1 e _ fun H2 e2 => ⟨p, xs, rfl, (h.ex (e.trans e2)).imp sq_of st_of, q H2 e2⟩
theorem given_const (n : Nat) (c : V) : given n (fun _ => true) (fun _ => c) = List.replicate n c := by
  rw [given_map]
  exact List.ext_getElem (by simp) (by simp)
theorem ev_allT {n : Nat} (h : EvL te σ H (given n (fun _ => true) fun _ => .bl true)) : Ev (tCB (rAll K) (tCons te tNil)) σ H (.bl true) := by
  rw [given_const] at h
  have e : (List.replicate n true).map V.bl = List.replicate n (V.bl true) := List.map_replicate
  rw [← e] at h
  exact ev_is (ev_all h) (by simp)
theorem el_lcRz {tr : TA} {j : Nat} {vs : List Nat} {n : Int} (f : Nat → Bool) (w : Nat → V) (h : EvA tr σ H [.int n]) (lo : -40000 ≤ n) (hi : n ≤ 40000) (hw : ∀ x, wipe ((wipe σ vs).set j (some x)) vs = wipe σ vs)
    (ht : ∀ (i : Nat) H1, Ex H H1 → (i : Int) < n → EvT t ((wipe σ vs).set j (some (.int (i : Int)))) H1 (f i)) (he : ∀ (i : Nat) H1, Ex H H1 → (i : Int) < n → f i = true → Ev te ((wipe σ vs).set j (some (.int (i : Int)))) H1 (w i)) :
    EvL (tLc (iRng1 tr) (gName j) t te vs) σ H (given n.toNat f w) := by
  by_cases h0 : 0 ≤ n
  · exact el_lcR1 f w h ⟨h0, hi⟩ hw ht he
  · intro H0 e Q q
    refine h H0 e _ fun H1 e1 => ⟨n, rfl, by omega, by omega, fun Dl hD => lc_range (lo := 0) (n := n.toNat) (Cw H1 f w Dl) ⟨hD, Ex.new hD, upd_same⟩ (fun i G hi _ => absurd hi (by omega)) fun G p => q Dl G (fresh_back e1 p.1) (e1.trans p.2.1) p.2.2⟩
theorem el_cat {xs ys : List V} (ha : EvL ta σ H xs) (hb : ∀ H1, Ex H H1 → EvL tb σ H1 ys) (hz : xs.length + ys.length ≤ 100000) : EvL (tOp rCat ta tb) σ H (xs ++ ys) := fun H1 e Q q =>
  ha H1 e _ fun p H2 hp e2 h2 => hb H2 (e.trans e2) H2 (Ex.refl _) _ fun r H3 hr e3 h3 => ⟨p, r, xs, ys, rfl, rfl, e3 _ _ h2, h3, sz_of hz, fun l hl => q l _ (fresh_back (e2.trans e3) hl) ((e2.trans e3).trans (Ex.new hl)) upd_same⟩
/-- over two tuples -/
theorem lc_zipT {a b : Addr} {xs ys : List V} {g : TG} {tt : TT} {vs : List Nat} {H1 : Hp} {Dl : Addr} {Qd : Hp → Prop} (Pv : Nat → Hp → Prop) (len : xs.length = ys.length) (h0 : Pv 0 (upd H1 Dl (.lst []))) (hl : ∀ i H, Pv i H → SqT K H a xs ∧ SqT K H b ys)
    (hs : ∀ i x y H T, xs[i]? = some x → ys[i]? = some y → Pv i H → H T = none → g (.ref T) (wipe σ vs) (upd H T (.tup [x, y])) fun σ2 H2 => wipe σ2 vs = wipe σ vs ∧ tt σ2 H2 fun b H3 =>
      if b = true then te σ2 H3 fun y H4 => ∃ acc, H4 Dl = some (.lst acc) ∧ acc.length < sizeLine ∧ Pv (i + 1) (upd H4 Dl (.lst (acc ++ [y]))) else Pv (i + 1) H3) (hd : ∀ H, Pv xs.length H → Qd H) :
    ∃ W : Nat → Nat → Hp → Prop, (∃ m, W 0 m (upd H1 Dl (.lst []))) ∧ ∀ i m H, W i m H →
      ((RZ.ItzT K a b).stop i H ∧ Qd H) ∨ ((RZ.ItzT K a b).go i H ∧ ∃ Nx : Hp → Prop, (∀ H', Nx H' → ∃ m', m' < m ∧ W (i + 1) m' H') ∧ ∀ x H', (RZ.ItzT K a b).yld i H x H' → g x (wipe σ vs) H' fun σ2 H2 => wipe σ2 vs = wipe σ vs ∧ tt σ2 H2 fun b H3 =>
        if b = true then te σ2 H3 fun y H4 => ∃ acc, H4 Dl = some (.lst acc) ∧ acc.length < sizeLine ∧ Nx (upd H4 Dl (.lst (acc ++ [y]))) else Nx H3) := by
  refine ⟨fun i m G => m = xs.length - i ∧ i ≤ xs.length ∧ Pv i G, ⟨_, rfl, Nat.zero_le _, h0⟩, fun i m G hW => ?_⟩
  obtain ⟨em, hi, p⟩ := hW
  obtain ⟨q1, q2⟩ := hl i G p
  by_cases lt : i < xs.length
  · refine .inr ⟨⟨xs, ys, xs[i], ys[i]'(len ▸ lt), q1, q2, List.getElem?_eq_getElem lt, List.getElem?_eq_getElem _⟩, Pv (i + 1), fun G' p' => ⟨xs.length - (i + 1), by omega, rfl, lt, p'⟩, fun z G' y => ?_⟩
    obtain ⟨T, x1, y1, rfl, hT, rfl, k1, k2⟩ := y
    exact hs i x1 y1 G T (k1 xs q1) (k2 ys q2) p hT
  · obtain rfl : i = xs.length := by omega
    exact .inl ⟨⟨xs, ys, q1, q2, .inl (Nat.le_refl _)⟩, hd G p⟩
end
theorem InsAt.ex {a : Addr} {H H' : Hp} {v : V} {r : Ins} (h : InsAt a H v r) (e : Ex H H') : InsAt a H' v r := h.kp (Kp.of e)
theorem SortOk.ex {a : Addr} {H H' : Hp} {x : V} {z : Str} (e : Ex H H') (h : SortOk a H x z) : SortOk a H' x z := by
  cases h with
  | jump i => exact .jump i
  | int i h0 h1 => exact .int i h0 h1
  | loc => exact .loc
  | pairs h1 h2 h3 h4 => exact .pairs (h1.imp (e _ _) (e _ _)) (h2.imp fun _ _ k => k.kp (Kp.of e)) h3 h4
  | cls => exact .cls
  | nam => exact .nam
  | met => exact .met
section
variable {P : Program} {w : World} {K : PySem.W.Frag} {mg : Str → Option Value} {base : Heap}
theorem ok_hasSort {f : Addr} {fd : FuncData} (F : FnP K "_has_sort" sHasSort f fd) (B : Bt mg) (bn : Bnds3 K w mg) (c_is_within : Cl P w K mg base L2.CX0 2 "is_within" ["thing", "low", "high"] spWithin) (c_is_integer : Cl P w K mg base L2.CX0 1 "is_integer" ["thing"] spInt) (c_is_row : Cl P w K mg base L2.CX0 1 "is_row" ["thing"] (spRow K))
    (c_is_pair : Cl P w K mg base L2.CX0 4 "_is_pair" ["thing"] spPair) (c_is_told : Cl P w K mg base L2.CX0 8 "_is_told" ["thing", "sort"] spTold) : FnOk P w K mg base L2.CX0 9 f fd ["thing", "sort"] spSort := by
  obtain ⟨aBN, es, nn, ti, tl, g_BOUNDS, kD, n1, h1, n2, h2, n3⟩ := bn.ex
  refine F.ok scHasSort (fun vs H Q E h => ?_) (fun cdv A outer s H vs Q E hr h => ?_)
  · obtain ⟨a, x, z, rfl, _⟩ := h
    rfl
  · obtain ⟨a, x, z, rfl, hx, q⟩ := h
    refine ⟨_, PSs.nox (pss_cons (ps_if (pt_cmpR (op_in_kd kD) (pv 1) (pe_glob (v := .ref aBN) (by rfl) g_BOUNDS rfl) rfl) (pss_cons (ps_asg (pe_ix ix_kdict (pe_glob (v := .ref aBN) (by rfl) g_BOUNDS rfl) (pv 1) (fun _ _ => rfl)) (pg_tup rfl (pgs_cons (pg_name (i := 2) scHasSort.nd rfl (.inl rfl)) (pgs_cons (pg_name (i := 3) scHasSort.nd rfl (.inl rfl)) pgs_nil))))
      (pss_one (ps_ret (pe_cl c_is_within hr (by decide) (by rfl) (pa_cons (pv 0) (pa_cons (pv 2) (pa_cons (pv 3) pa_nil))))))) pss_nil)
      (pss_cons (ps_if (pt_cmpR op_eq (pv 1) pe_str (nomark _)) (pss_one (ps_ret (pe_cl c_is_integer hr (by decide) (by rfl) (pa_cons (pv 0) pa_nil)))) pss_nil)
      (pss_cons (ps_if (pt_cmpR op_eq (pv 1) pe_str (nomark _)) (pss_one (ps_ret (pe_and (pe_cl c_is_row hr (by decide) (by rfl) (pa_cons (pv 0) pa_nil)) (pe_one (pe_callB (cr_all rfl) (by rfl) B.all (by decide +kernel) (pa_cons (pe_lc (own := [("pair", 4)]) (g := gName 4) (tt := tYes) rfl scHasSort.nd (pi_row (pv 0)) (blkOk_by (N := ["thing", "sort", "low", "high", "pair"]) (sc := L2.defScope sHasSort) (by decide +kernel)) (fun _ _ _ _ _ => pg_name (i := 4) scHasSort.nd rfl (Or.inl rfl)) (fun _ _ _ _ _ => pts_nil) (fun _ _ _ _ _ => (pe_cl c_is_pair hr (by decide) (by rfl) (pa_cons (pv 4) pa_nil)))) pa_nil)))))) pss_nil)
      (pss_cons (ps_if (pt_cmpR op_eq (pv 1) pe_str (nomark _)) pss_never pss_nil)
      (pss_one (ps_ret (pe_cl c_is_told hr (by decide) (by rfl) (pa_cons (pv 0) (pa_cons (pv 1) pa_nil))))))))), ?_⟩
    have inB : ∀ {t : Addr} {H0 : Hp}, PySem.W.nsIn K aBN z = some (some (.ref t)) → EvT (tTest (tOp (fun x y H Q => ∃ (z : Str) (r : Option Value), x = .str z ∧ y = .ref aBN ∧ PySem.W.nsIn K aBN z = some r ∧ Q (.bl r.isSome) H) (tVar 1) (tC (.ref aBN)))) [some x, some (.str z), none, none, none] H0 true := fun n => et_test (ev_op (x := .str z) (y := .ref aBN) (ev_var rfl) ev_c fun H2 e2 Q' q' => ⟨_, _, rfl, rfl, n, q' H2 (Ex.refl H2)⟩)
    have outB : ∀ {H0 : Hp}, PySem.W.nsIn K aBN z = some none → EvT (tTest (tOp (fun x y H Q => ∃ (z : Str) (r : Option Value), x = .str z ∧ y = .ref aBN ∧ PySem.W.nsIn K aBN z = some r ∧ Q (.bl r.isSome) H) (tVar 1) (tC (.ref aBN)))) [some x, some (.str z), none, none, none] H0 false := fun n => et_test (ev_op (x := .str z) (y := .ref aBN) (ev_var rfl) ev_c fun H2 e2 Q' q' => ⟨_, _, rfl, rfl, n, q' H2 (Ex.refl H2)⟩)
    cases hx with
    | jump i =>
      refine q_when (b := false) (outB (n3 _ (by decide))) (fun e => by cases e) fun _ H1 x1 => ?_
      refine q_when (b := true) (et_test (ev_eqZ (ev_var rfl) (by decide +kernel))) (fun _ H2 x2 => ?_) (fun e => by cases e)
      exact s_ret (ev_call (ea_cons (ev_var rfl) ea_nil) fun H3 e Q' q' E' => ⟨_, true, rfl, .int i, q'⟩) fun H3 x3 => q H3 ((x1.trans x2).trans x3)
    | int i h0 h9 =>
      refine q_when (b := true) (inB n1) (fun _ H1 x1 => ?_) (fun e => by cases e)
      refine ⟨.str "int", rfl, aBN, "int", .ref ti, rfl, rfl, ⟨es, nn, _, kD.at_, kD.lit, n1, rfl⟩, tup2 (h1 _) ?_⟩
      exact s_ret (ev_call (ea_cons (ev_var rfl) (ea_cons (ev_var rfl) (ea_cons (ev_var rfl) ea_nil))) fun H2 e Q' q' E' => ⟨_, _, _, true, rfl, .inl ⟨i, rfl, by rw [decide_eq_true h0, decide_eq_true h9]; rfl⟩, q'⟩) fun H3 x3 => q H3 (x1.trans x3)
    | loc =>
      refine q_when (b := true) (inB n2) (fun _ H1 x1 => ?_) (fun e => by cases e)
      refine ⟨.str "local", rfl, aBN, "local", .ref tl, rfl, rfl, ⟨es, nn, _, kD.at_, kD.lit, n2, rfl⟩, tup2 (h2 _) ?_⟩
      exact s_ret (ev_call (ea_cons (ev_var rfl) (ea_cons (ev_var rfl) (ea_cons (ev_var rfl) ea_nil))) fun H2 e Q' q' E' => ⟨_, _, _, true, rfl, .inl ⟨3, rfl, by decide⟩, q'⟩) fun H3 x3 => q H3 (x1.trans x3)
    | pairs hp ha hl hb =>
      refine q_when (b := false) (outB (n3 _ (by decide))) (fun e => by cases e) fun _ H1 x1 => ?_
      refine q_when (b := false) (et_test (ev_eqZ (ev_var rfl) (by decide +kernel))) (fun e => by cases e) fun _ H2 x2 => ?_
      refine q_when (b := true) (et_test (ev_eqZ (ev_var rfl) (by decide +kernel))) (fun _ H3 x3 => ?_) (fun e => by cases e)
      have x13 := (x1.trans x2).trans x3
      have hp3 : RowAt K H3 _ _ := RowAt.ex (K := K) hp x13
      refine s_ret (ev_is (ev_andV (a := true) (b := true) (ev_call (ea_cons (ev_var rfl) ea_nil) fun H4 e Q' q' E' => ⟨_, _, rfl, hp3.ex e, q'⟩) fun _ => ev_allT (el_lcRow (fun _ => true) (fun _ => .bl true) (ev_var rfl) hp3 (by rw [ha.len]; omega) (fun _ => rfl) (fun i y H4 _ _ => fun H5 e5 Q' q' => q' H5 (Ex.refl H5)) fun i y H4 x4 hy _ => ?_)) rfl) fun H4 x4 => q H4 (x13.trans x4)
      obtain ⟨m, hm, hk⟩ := ha.get hy
      have := hb m (List.mem_of_getElem? hm)
      exact ev_call (ea_cons (ev_var rfl) ea_nil) fun H5 e Q' q' E' => ⟨a, y, m, rfl, hk.kp (Kp.of ((x13.trans x4).trans e)), this.1, this.2, q'⟩
    | cls =>
      refine q_when (b := false) (outB (n3 _ (by decide))) (fun e => by cases e) fun _ H1 x1 => ?_
      refine q_when (b := false) (et_test (ev_eqZ (ev_var rfl) (by decide +kernel))) (fun e => by cases e) fun _ H2 x2 => ?_
      refine q_when (b := false) (et_test (ev_eqZ (ev_var rfl) (by decide +kernel))) (fun e => by cases e) fun _ H3 x3 => ?_
      refine q_when (b := false) (et_test (ev_eqZ (ev_var rfl) (by decide +kernel))) (fun e => by cases e) fun _ H4 x4 => ?_
      exact s_ret (ev_call (ea_cons (ev_var rfl) (ea_cons (ev_var rfl) ea_nil)) fun H5 e Q' q' E' => ⟨_, List.mem_cons_self, rfl, q'⟩) fun H5 x5 => q H5 ((((x1.trans x2).trans x3).trans x4).trans x5)
    | nam =>
      refine q_when (b := false) (outB (n3 _ (by decide))) (fun e => by cases e) fun _ H1 x1 => ?_
      refine q_when (b := false) (et_test (ev_eqZ (ev_var rfl) (by decide +kernel))) (fun e => by cases e) fun _ H2 x2 => ?_
      refine q_when (b := false) (et_test (ev_eqZ (ev_var rfl) (by decide +kernel))) (fun e => by cases e) fun _ H3 x3 => ?_
      refine q_when (b := false) (et_test (ev_eqZ (ev_var rfl) (by decide +kernel))) (fun e => by cases e) fun _ H4 x4 => ?_
      exact s_ret (ev_call (ea_cons (ev_var rfl) (ea_cons (ev_var rfl) ea_nil)) fun H5 e Q' q' E' => ⟨_, (List.mem_cons_of_mem _ List.mem_cons_self), rfl, q'⟩) fun H5 x5 => q H5 ((((x1.trans x2).trans x3).trans x4).trans x5)
    | met =>
      refine q_when (b := false) (outB (n3 _ (by decide))) (fun e => by cases e) fun _ H1 x1 => ?_
      refine q_when (b := false) (et_test (ev_eqZ (ev_var rfl) (by decide +kernel))) (fun e => by cases e) fun _ H2 x2 => ?_
      refine q_when (b := false) (et_test (ev_eqZ (ev_var rfl) (by decide +kernel))) (fun e => by cases e) fun _ H3 x3 => ?_
      refine q_when (b := false) (et_test (ev_eqZ (ev_var rfl) (by decide +kernel))) (fun e => by cases e) fun _ H4 x4 => ?_
      exact s_ret (ev_call (ea_cons (ev_var rfl) (ea_cons (ev_var rfl) ea_nil)) fun H5 e Q' q' E' => ⟨_, (List.mem_cons_of_mem _ (List.mem_cons_of_mem _ List.mem_cons_self)), rfl, q'⟩) fun H5 x5 => q H5 ((((x1.trans x2).trans x3).trans x4).trans x5)
theorem atI_zero {x : V} {ys : List V} : atI (x :: ys) 0 = some x := atI_nat (xs := x :: ys) (j := 0) rfl
theorem ones_ne {z y : Str} (h : z ∈ ones) (hy : y ∉ ones) : decide (z = y) = false := decide_eq_false fun e => hy (e ▸ h)
theorem word_ne {a : Addr} {H : Hp} {xs : List V} {r : Ins} (h : InsP a H r xs) {y : Str} (h1 : y ∉ ones) (h2 : y ∉ jmps) (h3 : y ∉ (["switch", "iconst", "iload", "invokestatic", "new"] : List Str)) : decide (r.word = y) = false := by
  refine decide_eq_false fun e => ?_
  cases r with
  | wd z => exact h1 (e ▸ h.2)
  | jp z g => exact h2 (e ▸ h.2)
  | _ => exact h3 (by rw [← e]; simp [Ins.word])
theorem ok_agrees {f : Addr} {fd : FuncData} (F : FnP K "_agrees" sAgrees f fd) (B : Bt mg) : FnOk P w K mg base L2.CX0 1 f fd ["row"] spIns := by
  refine F.ok scAgrees (fun vs H Q E h => ?_) (fun cdv A outer s H vs Q E hr h => ?_)
  · obtain ⟨a, v, r, N, rfl, _⟩ := h
    rfl
  · obtain ⟨a, v, r, N, rfl, ⟨t, xs, rfl, _, ht, hp⟩, _, _, q⟩ := h
    obtain ⟨ys, rfl, _⟩ := hp.head
    refine ⟨_, PSs.nox (pss_cons (ps_if (pt_cmpR op_eq (pe_ix ix_tup (pv 0) pe_int (fun _ _ => rfl)) pe_str (nomark _)) pss_never pss_nil) (pss_cons (ps_if (PW.pt (pw_and (pt_cmpR op_eq (pe_ix ix_tup (pv 0) pe_int (fun _ _ => rfl)) pe_str (nomark _)) (pw_and1 (pt_cmpR op_eq pe_never pe_str (nomark _))))) pss_never pss_nil) (pss_one (ps_ret pe_bl)))), ?_⟩
    refine q_when (b := false) (et_test (ev_eqZ (ev_ix0 rfl ht atI_zero) (word_ne hp (by decide +kernel) (by decide +kernel) (by decide +kernel)))) (fun e => by cases e) fun _ H1 x1 => ?_
    refine q_when (b := false) (et_is (et_and (a := false) (b := false) (et_test (ev_eqZ (ev_ix0 rfl (x1 _ _ ht) atI_zero) (word_ne hp (by decide +kernel) (by decide +kernel) (by decide +kernel)))) fun e => by cases e) rfl) (fun e => by cases e) fun _ H2 x2 => ?_
    exact s_ret ev_c fun H3 x3 => q H3 ((x1.trans x2).trans x3)
end
end N8

set_option maxHeartbeats 4000000
set_option autoImplicit false
namespace N8
open PySem PySem.Spec PyProof.Rows L2 Evl
open SX (S)
theorem sIx_one {n : Nat} : HT.sIx (n + 1) 0 (some 1) = 1 := by
  have := HT.sIx_nat (n + 1) 0 1
  rw [show ((1 : Nat) : Int) = 1 by rfl] at this
  rw [this]
  omega
theorem cut_one {x : V} {ys : List V} : cutV (x :: ys) (some 1) none = ys := by
  unfold cutV
  rw [List.length_cons, sIx_one, HT.sIx_none, List.drop_one, List.tail_cons, Nat.add_sub_cancel, List.take_length]
section
variable {K : PySem.W.Frag} {σ : L2.St} {H H' : Hp} {te ta tb tl : TE} {t : TT} {r : R2} {v x : V} {D : Ends} {tz tu : TS} {Q : VK}
theorem ev_allVar {i n : Nat} {p : Addr} (hi : σ[i]? = some (some (.ref p))) (hp : H p = some (.lst (given n (fun _ => true) fun _ => .bl true))) : Ev (tCB (rAll K) (tCons (tVar i) tNil)) σ H (.bl true) := fun H1 e Q q => by
  refine ⟨.ref p, hi, p, List.replicate n true, rfl, sq_of ?_, ?_⟩
  · rw [e _ _ hp, given_const, List.map_replicate]
  · rw [show (List.replicate n true).all id = true by simp]
    exact q H1 (Ex.refl H1)
theorem et_yes : EvT tYes σ H true := fun H1 e Q q => q H1 (Ex.refl H1)
end
theorem InsP.args {a : Addr} {H : Hp} {r : Ins} {ys : List V} {N : Nat} (h : InsP a H r (.str r.word :: ys)) (ok : InsOk N r) (hN : N ≤ 1000) : ∀ (i : Nat) (x : V) (z : Str), ys[i]? = some x → r.sorts[i]? = some z → SortOk a H x z := by
  intro i x z hx hz
  cases r with
  | wd y => cases i <;> cases hz
  | jp y g =>
    obtain rfl := (List.cons.inj h.1).2
    cases i with
    | zero =>
      obtain rfl := Option.some.inj hx
      obtain rfl := Option.some.inj hz
      exact .jump _
    | succ i => cases hz
  | sw ps o =>
    obtain ⟨p, vs, h1, h2, h3, h4⟩ := h
    obtain rfl := (List.cons.inj h1).2
    cases i with
    | zero =>
      obtain rfl := Option.some.inj hx
      obtain rfl := Option.some.inj hz
      exact .pairs h3 h4 ok.len fun q hq => ⟨(ok.ok q hq).1, (ok.ok q hq).2.1⟩
    | succ i =>
      cases i with
      | zero =>
        obtain rfl := Option.some.inj hx
        obtain rfl := Option.some.inj hz
        exact .jump _
      | succ i => cases hz
  | ic g =>
    have hg : g < N := ok
    obtain rfl := (List.cons.inj h).2
    cases i with
    | zero =>
      obtain rfl := Option.some.inj hx
      obtain rfl := Option.some.inj hz
      exact .int _ (by omega) (by omega)
    | succ i => cases hz
  | il =>
    obtain rfl := (List.cons.inj h).2
    cases i with
    | zero =>
      obtain rfl := Option.some.inj hx
      obtain rfl := Option.some.inj hz
      exact .loc
    | succ i => cases hz
  | iv =>
    obtain rfl := (List.cons.inj h).2
    cases i with
    | zero =>
      obtain rfl := Option.some.inj hx
      obtain rfl := Option.some.inj hz
      exact .cls
    | succ i =>
      cases i with
      | zero =>
        obtain rfl := Option.some.inj hx
        obtain rfl := Option.some.inj hz
        exact .nam
      | succ i =>
        cases i with
        | zero =>
          obtain rfl := Option.some.inj hx
          obtain rfl := Option.some.inj hz
          exact .met
        | succ i => cases hz
  | nw =>
    obtain rfl := (List.cons.inj h).2
    cases i with
    | zero =>
      obtain rfl := Option.some.inj hx
      obtain rfl := Option.some.inj hz
      exact .cls
    | succ i => cases hz
def spRowB : Sp := fun vs H Q _ => ∃ (a : Addr) (v : V) (r : Ins) (N : Nat), vs = [v] ∧ InsAt a H v r ∧ InsOk N r ∧ N ≤ 1000 ∧ RetV (.bl true) H Q
def spTargets : Sp := fun vs H Q _ => ∃ (a : Addr) (v : V) (r : Ins), vs = [v] ∧ InsAt a H v r ∧ r.goals.length ≤ 1000 ∧ RetL (r.goals.map V.int) H Q
/-- all tuples stand -/
def Kt (H H' : Hp) : Prop := ∀ b xs, H b = some (.tup xs) → H' b = some (.tup xs)
theorem Kt.of {H H' : Hp} (e : Ex H H') : Kt H H' := fun b xs h => e b _ h
theorem Kt.exa {D : Addr} {l : List V} {H H' : Hp} (h : H D = some (.lst l)) (e : Exa D H H') : Kt H H' := fun b xs k => e b _ (fun z => by rw [z, h] at k; cases k) k
theorem Kt.exi {D C dx : Addr} {fs : List (Str × V)} {H H' : Hp} (h : H D = some (.ins C dx fs)) (e : Exa D H H') : Kt H H' := fun b xs k => e b _ (fun z => by rw [z, h] at k; cases k) k
theorem Kt.trans {H H1 H2 : Hp} (x : Kt H H1) (y : Kt H1 H2) : Kt H H2 := fun b xs h => y b xs (x b xs h)
/-- as InsAt, of tuples alone -/
def InsPT (a : Addr) (H : Hp) : Ins → List V → Prop
  | .sw ps o, xs => ∃ p vs, xs = [.str "switch", .ref p, .int (o : Nat)] ∧ p ≠ a ∧ H p = some (.tup vs) ∧ All2 (PrAt a H) vs ps
  | r, xs => InsP a H r xs
def InsT (a : Addr) (H : Hp) (v : V) (r : Ins) : Prop := ∃ t xs, v = .ref t ∧ t ≠ a ∧ H t = some (.tup xs) ∧ InsPT a H r xs
theorem PrAt.kt {a : Addr} {H H' : Hp} {v : V} {q : Int × Nat} (e : Kt H H') (h : PrAt a H v q) : PrAt a H' v q := by
  obtain ⟨t, rfl, n, ht⟩ := h
  exact ⟨t, rfl, n, e _ _ ht⟩
theorem InsT.kt {a : Addr} {H H' : Hp} {v : V} {r : Ins} (e : Kt H H') (h : InsT a H v r) : InsT a H' v r := by
  obtain ⟨t, xs, rfl, n, ht, hp⟩ := h
  refine ⟨t, xs, rfl, n, e _ _ ht, ?_⟩
  cases r with
  | sw ps o =>
    obtain ⟨p, vs, h1, h2, h3, h4⟩ := hp
    exact ⟨p, vs, h1, h2, e _ _ h3, h4.imp fun v m k => k.kt e⟩
  | _ => exact hp
theorem InsT.at_ {a : Addr} {H : Hp} {v : V} {r : Ins} (h : InsT a H v r) : InsAt a H v r := by
  obtain ⟨t, xs, rfl, n, ht, hp⟩ := h
  refine ⟨t, xs, rfl, n, ht, ?_⟩
  cases r with
  | sw ps o =>
    obtain ⟨p, vs, h1, h2, h3, h4⟩ := hp
    exact ⟨p, vs, h1, h2, .inr h3, h4⟩
  | _ => exact hp
def spKept1 : Sp := fun vs H Q _ => ∃ (a : Addr) (v : V) (r : Ins), vs = [v] ∧ InsAt a H v r ∧ H a ≠ none ∧ ∀ v' H', Ex H H' → InsT a H' v' r → Q v' H'
section
variable {P : Program} {w : World} {K : PySem.W.Frag} {mg : Str → Option Value} {base : Heap}
theorem ok_isInstruction {f : Addr} {fd : FuncData} (F : FnP K "is_instruction" sIsInstruction f fd) (B : Bt mg) (ar : Args3 K w mg) (c_has_sort : Cl P w K mg base L2.CX0 9 "_has_sort" ["thing", "sort"] spSort) (c_agrees : Cl P w K mg base L2.CX0 1 "_agrees" ["row"] spIns) : FnOk P w K mg base L2.CX0 10 f fd ["thing"] spIns := by
  obtain ⟨aAR, es, nn, g_ARGUMENTS, kD, hAr⟩ := ar
  refine F.ok scIsInstruction (fun vs H Q E h => ?_) (fun cdv A outer s H vs Q E hr h => ?_)
  · obtain ⟨a, v, r, N, rfl, _⟩ := h
    rfl
  · obtain ⟨a, v, r, N, rfl, hI, ok, hN, q⟩ := h
    obtain ⟨t, xs, rfl, nta, ht, hp⟩ := id hI
    obtain ⟨tz, n1, hT⟩ := hAr _ hp.mem
    obtain ⟨ys, rfl, hlen⟩ := hp.head
    dsimp only at n1 hT
    refine ⟨_, PSs.nox (pss_cons (ps_if (PW.pt (pw_or (pt_not (pt_val (pe_callB call_isi (by rfl) B.isi (by decide +kernel) (pa_cons (pv 0) (pa_cons (pe_bltn (v := .ty "tuple") (by rfl) B.tuple (by decide +kernel) rfl) pa_nil))))) (pw_or (pt_cmpR op_eq (pe_callB call_len_seq (by rfl) B.len PySem.boot_len (pa_cons (pv 0) pa_nil)) pe_int (nomark _)) (pw_or1 (pt_not (pt_val (pe_callB call_isi (by rfl) B.isi (by decide +kernel) (pa_cons (pe_ix ix_tup (pv 0) pe_int (fun _ _ => rfl)) (pa_cons (pe_bltn (v := .ty "str") (by rfl) B.str (by decide +kernel) rfl) pa_nil))))))))) (pss_one (ps_ret pe_bl)) pss_nil)
      (pss_cons (ps_if (pt_cmpR (op_notIn_kd kD) (pe_ix ix_tup (pv 0) pe_int (fun _ _ => rfl)) (pe_glob (v := .ref aAR) (by rfl) g_ARGUMENTS rfl) rfl) (pss_one (ps_ret pe_bl)) pss_nil)
      (pss_cons (ps_set (i := 1) scIsInstruction.nd rfl (.inl rfl) (pe_ix ix_kdict (pe_glob (v := .ref aAR) (by rfl) g_ARGUMENTS rfl) (pe_ix ix_tup (pv 0) pe_int (fun _ _ => rfl)) (fun _ _ => rfl)))
      (pss_cons (ps_if (pt_cmpR op_ne (pe_callB call_len_seq (by rfl) B.len PySem.boot_len (pa_cons (pv 0) pa_nil)) (pe_op op_add pe_int (pe_callB call_len_seq (by rfl) B.len PySem.boot_len (pa_cons (pv 1) pa_nil))) (nomark _)) (pss_one (ps_ret pe_bl)) pss_nil)
      (pss_cons (ps_setLc (i := 2) (own := [("argument", 3), ("sort", 4)]) (g := gTup K 2 (gCons (gName 3) (gCons (gName 4) gNil))) (tt := tYes) rfl scIsInstruction.nd rfl rfl (sw_true rfl rfl rfl (by decide +kernel)) (RZ.pi_zipA (by rfl) B.zip (pa_cons (pe_slice sl_tup (pv 0) (po_some pe_int) po_none) (pa_cons (pv 1) pa_nil))) (blkOk_by (N := ["thing", "sorts", "right", "argument", "sort"]) (sc := L2.defScope sIsInstruction) (by decide +kernel)) (fun _ _ _ _ _ => (pg_tup rfl (pgs_cons (pg_name (i := 3) scIsInstruction.nd rfl (.inl rfl)) (pgs_cons (pg_name (i := 4) scIsInstruction.nd rfl (.inl rfl)) pgs_nil)))) (fun _ _ _ _ _ => pts_nil) (fun _ _ _ _ _ => (pe_cl c_has_sort hr (by decide) (by rfl) (pa_cons (pv 3) (pa_cons (pv 4) pa_nil)))))
      (pss_one (ps_ret (pe_and (pe_callB (cr_all rfl) (by rfl) B.all (by decide +kernel) (pa_cons (pv 2) pa_nil)) (pe_one (pe_cl c_agrees hr (by decide) (by rfl) (pa_cons (pv 0) pa_nil))))))))))), ?_⟩
    refine q_when (b := false) (et_is (et_or (a := false) (b := false) (et_is (et_not (et_test (ev_isi (b := true) (ev_var rfl) (.base (.tup ht)) (by decide +kernel)))) rfl) fun _ => et_is (et_or (a := false) (b := false) (et_test (ev_is (ev_op (ev_lenTup (ev_var rfl) ht) ev_c rv_eqI) (by rw [List.length_cons]; exact congrArg V.bl (decide_eq_false (by omega))))) fun _ => et_is (et_not (et_test (ev_isStr (ev_ix0 rfl ht atI_zero)))) rfl) rfl) rfl) (fun e => by cases e) fun _ H1 x1 => ?_
    refine q_when (b := false) (et_test (ev_op (x := .str r.word) (y := .ref aAR) (ev_ix0 rfl (x1 _ _ ht) atI_zero) ev_c fun H2 e2 Q' q' => ⟨_, _, rfl, rfl, n1, q' H2 (Ex.refl H2)⟩)) (fun e => by cases e) fun _ H2 x2 => ?_
    have x12 := x1.trans x2
    refine q_asg (v := .ref tz) (ev_op (x := .ref aAR) (y := .str r.word) ev_c (ev_ix0 rfl (x12 _ _ ht) atI_zero) fun H2 e2 Q' q' => ⟨aAR, _, .ref tz, rfl, rfl, ⟨es, nn, _, kD.at_, kD.lit, n1, rfl⟩, q' H2 (Ex.refl H2)⟩) fun H3 x3 => ?_
    have x13 := x12.trans x3
    refine q_when (b := false) (et_test (ev_is (ev_op (x := .int ((V.str r.word :: ys).length : Nat)) (y := .int (1 + (r.sorts.length : Int))) (ev_lenTup (ev_var rfl) (x13 _ _ ht)) (ev_op (x := .int 1) (y := .int (r.sorts.length : Nat)) ev_c (fun H4 e4 Q' q' => ⟨.ref tz, rfl, tz, r.sorts.map V.str, rfl, .inr (hT _), by rw [List.length_map]; exact q' H4 (Ex.refl H4)⟩) rv_I0) rv_neI) (by rw [List.length_cons, hlen]; exact congrArg V.bl (by simp; omega)))) (fun e => by cases e) fun _ H4 x4 => ?_
    have x14 := x13.trans x4
    refine q_asgAny ⟨.ref t, rfl, 1, rfl, t, V.str r.word :: ys, rfl, st_of (x14 _ _ ht), (fun y => by have := y.1; rw [List.length_cons, sIx_one] at this; cases this), fun r1 hr1 => ?_⟩
    rw [cut_one]
    refine ⟨.ref tz, rfl, r1, tz, ys, r.sorts.map V.str, rfl, .inr ⟨st_of upd_same, hT _, fun Dl hD => ?_⟩⟩
    have x15 : Ex H (upd H4 r1 (.tup ys)) := x14.trans (Ex.new hr1)
    have at1 : (upd H4 r1 (.tup ys)) r1 = some (.tup ys) := upd_same
    generalize upd H4 r1 (.tup ys) = H5 at x15 at1 hD ⊢
    refine lc_zipT (xs := ys) (ys := r.sorts.map V.str) (Cw H5 (fun _ => true) (fun _ => .bl true) Dl) (by rw [List.length_map]; exact hlen) ⟨hD, Ex.new hD, upd_same⟩ (fun i G p => ⟨st_of (p.2.1 _ _ at1), hT _⟩) (fun i x y G T hx hy p hT2 => ?_) fun G p => ?_
    · obtain ⟨p1, p2, p3⟩ := p
      have nTD : Dl ≠ T := fun z => by rw [z, hT2] at p3; cases p3
      have p' : Cw H5 (fun _ => true) (fun _ => .bl true) Dl i (upd G T (.tup [x, y])) := ⟨p1, p2.trans (Ex.new hT2), by rw [upd_ne nTD]; exact p3⟩
      rw [List.getElem?_map] at hy
      obtain ⟨z, hz, rfl⟩ := Option.map_eq_some_iff.mp hy
      have li : i < 1000 := by
        have h1 := (List.getElem?_eq_some_iff.mp hz).1
        have h2 : r.sorts.length ≤ 3 := by cases r <;> simp [Ins.sorts]
        omega
      exact tup2 (st_of upd_same) ⟨rfl, cw_turn p' (by omega) et_yes fun _ => ev_call (ea_cons (ev_var rfl) (ea_cons (ev_var rfl) ea_nil)) fun H6 e Q' q' E' => ⟨a, x, z, rfl, ((hp.kp (Kp.of (x15.trans e))).args ok hN i x z hx hz), q'⟩⟩
    · obtain ⟨p1, p2, p3⟩ := p
      have x16 := x15.trans p2
      exact s_ret (ev_is (ev_andV (a := true) (b := true) (ev_allVar rfl p3) fun _ => ev_call (ea_cons (ev_var rfl) ea_nil) fun H7 e Q' q' E' => ⟨a, .ref t, r, N, rfl, hI.ex (x16.trans e), ok, hN, q'⟩) rfl) fun H7 x7 => q H7 (x16.trans x7)
end
end N8

set_option maxHeartbeats 4000000
set_option autoImplicit false
namespace N8
open PySem PySem.Spec PyProof.Rows L2 Evl
open SX (S)
theorem atI_len {xs : List V} {i : Nat} {v : V} (h : xs[i]? = some v) : atI xs ((i : Nat) : Int) = some v := atI_nat h
theorem notSw {a : Addr} {H : Hp} {xs : List V} {r : Ins} (h : InsP a H r xs) (n : ∀ ps o, r ≠ .sw ps o) : r.word ≠ "switch" := by
  cases r with
  | sw ps o => exact absurd rfl (n ps o)
  | wd z => exact fun e => absurd (e ▸ h.2 : ("switch" : Str) ∈ ones) (by decide +kernel)
  | jp z g => exact fun e => absurd (e ▸ h.2 : ("switch" : Str) ∈ jmps) (by decide +kernel)
  | ic g => exact (by decide +kernel : ("iconst" : Str) ≠ "switch")
  | il => exact (by decide +kernel : ("iload" : Str) ≠ "switch")
  | iv => exact (by decide +kernel : ("invokestatic" : Str) ≠ "switch")
  | nw => exact (by decide +kernel : ("new" : Str) ≠ "switch")
section
variable {P : Program} {w : World} {K : PySem.W.Frag} {mg : Str → Option Value} {base : Heap}
theorem ok_ascends {f : Addr} {fd : FuncData} (F : FnP K "ascends" sAscends f fd) (B : Bt mg) : FnOk P w K mg base L2.CX0 1 f fd ["row"] spIns := by
  refine F.ok scAscends (fun vs H Q E h => ?_) (fun cdv A outer s H vs Q E hr h => ?_)
  · obtain ⟨a, v, r, N, rfl, _⟩ := h
    rfl
  · obtain ⟨a, v, r, N, rfl, hI, ok, hN, q⟩ := h
    obtain ⟨t, xs, rfl, nta, ht, hp⟩ := id hI
    refine ⟨_, PSs.nox (pss_cons (ps_if (pt_cmpR op_ne (pe_ix ix_tup (pv 0) pe_int (fun _ _ => rfl)) pe_str (nomark _)) (pss_one (ps_ret pe_bl)) pss_nil)
      (pss_cons (ps_set (i := 1) scAscends.nd rfl (.inr rfl) (pe_ix ix_tup (pv 0) pe_int (fun _ _ => rfl)))
      (pss_one (ps_ret (pe_callB (cr_all rfl) (by rfl) B.all (by decide +kernel) (pa_cons (pe_lc (own := [("k", 2)]) (g := gName 2) (tt := tYes) rfl scAscends.nd (pi_range1 (by rfl) B.range (pa_cons (pe_op op_sub (pe_callB call_len_seq (by rfl) B.len PySem.boot_len (pa_cons (pv 1) pa_nil)) pe_int) pa_nil)) (blkOk_by (N := ["row", "pairs", "k"]) (sc := L2.defScope sAscends) (by decide +kernel)) (fun _ _ _ _ _ => pg_name (i := 2) scAscends.nd rfl (Or.inl rfl)) (fun _ _ _ _ _ => pts_nil) (fun _ _ _ _ _ => (pe_cmpR op_lt (pe_ix (r := rIxT K) ix_tup (pe_ix (r := rIxRow K) ix_row (pv 1) (pv 2) (fun _ _ => rfl)) pe_int (fun _ _ => rfl)) (pe_ix (r := rIxT K) ix_tup (pe_ix (r := rIxRow K) ix_row (pv 1) (pe_op op_add (pv 2) pe_int) (fun _ _ => rfl)) pe_int (fun _ _ => rfl)) (nomark _)))) pa_nil)))))), ?_⟩
    by_cases hs : ∃ ps o, r = .sw ps o
    · obtain ⟨ps, o, rfl⟩ := hs
      obtain ⟨p, vs, rfl, npa, hq, ha⟩ := hp
      have ok : SwOk N ps o := ok
      refine q_when (b := false) (et_test (ev_neZ (ev_ix0 rfl ht atI_zero) (by decide +kernel))) (fun e => by cases e) fun _ H1 x1 => ?_
      refine q_asg (v := .ref p) (ev_ix0 rfl (x1 _ _ ht) rfl) fun H2 x2 => ?_
      have x12 := x1.trans x2
      have hq2 : RowAt K H2 p vs := RowAt.ex (K := K) hq x12
      have ha2 : All2 (PrAt a H2) vs ps := ha.imp fun _ _ k => k.kp (Kp.of x12)
      have len := ha.len
      refine s_ret (ev_allT (n := ((vs.length : Int) - 1).toNat) (el_lcRz (fun _ => true) (fun _ => .bl true) (ea_cons (ev_op (ev_lenRow (ev_var rfl) hq2) ev_c rv_I0) ea_nil) (by omega) (by have := ok.len; omega) (fun _ => rfl) (fun _ _ _ _ => et_yes) fun i H3 x3 hi _ => ?_)) fun H4 x4 => q H4 (x12.trans x4)
      have l1 : i < vs.length := by omega
      have l2 : i + 1 < vs.length := by omega
      obtain ⟨m1, e1, t1, z1, _, h1⟩ := ha2.get (List.getElem?_eq_getElem l1)
      obtain ⟨m2, e2, t2, z2, _, h2⟩ := ha2.get (List.getElem?_eq_getElem l2)
      have a1 : atI vs (i : Int) = some (.ref t1) := atI_len (by rw [← z1]; exact List.getElem?_eq_getElem l1)
      have a2 : atI vs ((i : Int) + 1) = some (.ref t2) := by
        rw [show (i : Int) + 1 = ((i + 1 : Nat) : Int) by omega]
        exact atI_len (by rw [← z2]; exact List.getElem?_eq_getElem l2)
      have lt : m1.1 < m2.1 := by
        obtain ⟨k1, rfl⟩ := List.getElem?_eq_some_iff.mp e1
        obtain ⟨k2, rfl⟩ := List.getElem?_eq_some_iff.mp e2
        exact (List.pairwise_iff_getElem.mp ok.asc) i (i + 1) k1 k2 (by omega)
      exact ev_is (ev_op (ev_op (ev_op (ev_var rfl) (ev_var rfl) (rv_ixRow (hq2.ex x3) a1)) ev_c (rv_ixT (st_of (x3 _ _ h1)) rfl)) (ev_op (ev_op (ev_var rfl) (ev_op (ev_var rfl) ev_c rv_I0) (rv_ixRow (hq2.ex x3) a2)) ev_c (rv_ixT (st_of (x3 _ _ h2)) rfl)) rv_I0) (congrArg V.bl (decide_eq_true lt))
    · have ns := notSw hp fun ps o e => hs ⟨ps, o, e⟩
      obtain ⟨ys, rfl, _⟩ := hp.head
      refine q_when (b := true) (et_test (ev_neZ (ev_ix0 rfl ht atI_zero) (by rw [decide_eq_false ns]; rfl))) (fun _ H1 x1 => ?_) (fun e => by cases e)
      exact s_ret ev_c fun H3 x3 => q H3 (x1.trans x3)
theorem ok_rightPairs {f : Addr} {fd : FuncData} (F : FnP K "has_right_pairs" sHasRightPairs f fd) (B : Bt mg) (c_ascends : Cl P w K mg base L2.CX0 1 "ascends" ["row"] spIns) : FnOk P w K mg base L2.CX0 2 f fd ["row"] spIns := by
  refine F.ok scHasRightPairs (fun vs H Q E h => ?_) (fun cdv A outer s H vs Q E hr h => ?_)
  · obtain ⟨a, v, r, N, rfl, _⟩ := h
    rfl
  · obtain ⟨a, v, r, N, rfl, hI, ok, hN, q⟩ := h
    obtain ⟨t, xs, rfl, nta, ht, hp⟩ := id hI
    refine ⟨_, PSs.nox (pss_one (ps_ret (pe_and (pe_cl c_ascends hr (by decide) (by rfl) (pa_cons (pv 0) pa_nil)) (pe_one (pe_or (pe_cmpR op_ne (pe_ix ix_tup (pv 0) pe_int (fun _ _ => rfl)) pe_str (nomark _)) (pe_one (pe_callB (cr_all rfl) (by rfl) B.all (by decide +kernel) (pa_cons (pe_lc (own := [("pair", 1)]) (g := gName 1) (tt := tYes) rfl scHasRightPairs.nd (pi_row (pe_ix ix_tup (pv 0) pe_int (fun _ _ => rfl))) (blkOk_by (N := ["row", "pair"]) (sc := L2.defScope sHasRightPairs) (by decide +kernel)) (fun _ _ _ _ _ => pg_name (i := 1) scHasRightPairs.nd rfl (Or.inl rfl)) (fun _ _ _ _ _ => pts_nil) (fun _ _ _ _ _ => (pe_cmpR op_ne (pe_ix (r := rIxT K) ix_tup (pv 1) pe_int (fun _ _ => rfl)) (pe_ix (r := rIxT K) ix_tup (pv 0) pe_int (fun _ _ => rfl)) (nomark _)))) pa_nil)))))))), ?_⟩
    refine s_ret (ev_is (ev_andV (a := true) (b := true) (ev_call (ea_cons (ev_var rfl) ea_nil) fun H1 e Q' q' E' => ⟨a, .ref t, r, N, rfl, hI.ex e, ok, hN, q'⟩) fun _ => ?_) rfl) fun H3 x3 => q H3 x3
    by_cases hs : ∃ ps o, r = .sw ps o
    · obtain ⟨ps, o, rfl⟩ := hs
      obtain ⟨p, vs, rfl, npa, hq, ha⟩ := hp
      have ok : SwOk N ps o := ok
      have hq2 : RowAt K H p vs := hq
      refine ev_is (ev_orV (a := false) (b := true) (ev_neZ (ev_ix0 rfl ht atI_zero) (by decide +kernel)) fun _ => ev_allT (el_lcRow (fun _ => true) (fun _ => .bl true) (ev_ix0 rfl ht rfl) hq2 (by have := ha.len; have := ok.len; omega) (fun _ => rfl) (fun _ _ _ _ _ => et_yes) fun i y H1 x1 hy _ => ?_)) rfl
      obtain ⟨m, hm, t1, rfl, _, h1⟩ := ha.get hy
      have ne := (ok.ok m (List.mem_of_getElem? hm)).2.2.2
      exact ev_is (ev_op (ev_ix0 rfl (x1 _ _ h1) rfl) (ev_ix0 rfl (x1 _ _ ht) rfl) rv_neI) (congrArg V.bl (by simp; omega))
    · have ns := notSw hp fun ps o e => hs ⟨ps, o, e⟩
      obtain ⟨ys, rfl, _⟩ := hp.head
      exact ev_is (ev_orV (a := true) (b := false) (ev_neZ (ev_ix0 rfl ht atI_zero) (by rw [decide_eq_false ns]; rfl)) fun e => by cases e) rfl
theorem ok_targets {f : Addr} {fd : FuncData} (F : FnP K "targets" sTargets f fd) (B : Bt mg) (ar : Args3 K w mg) : FnOk P w K mg base L2.CX0 1 f fd ["row"] spTargets := by
  obtain ⟨aAR, es, nn, g_ARGUMENTS, kD, hAr⟩ := ar
  refine F.ok scTargets (fun vs H Q E h => ?_) (fun cdv A outer s H vs Q E hr h => ?_)
  · obtain ⟨a, v, r, rfl, _⟩ := h
    rfl
  · obtain ⟨a, v, r, rfl, hI, hg, q⟩ := h
    obtain ⟨t, xs, rfl, nta, ht, hp⟩ := id hI
    obtain ⟨tz, n1, hT⟩ := hAr _ hp.mem
    dsimp only at n1 hT
    refine ⟨_, PSs.nox (pss_cons (ps_if (pt_cmpR op_eq (pe_ix ix_tup (pv 0) pe_int (fun _ _ => rfl)) pe_str (nomark _)) (pss_one (ps_ret (pe_op op_cat (pe_lc (own := [("pair", 1)]) (g := gName 1) (tt := tYes) rfl scTargets.nd (pi_row (pe_ix ix_tup (pv 0) pe_int (fun _ _ => rfl))) (blkOk_by (N := ["row", "pair"]) (sc := L2.defScope sTargets) (by decide +kernel)) (fun _ _ _ _ _ => pg_name (i := 1) scTargets.nd rfl (Or.inl rfl)) (fun _ _ _ _ _ => pts_nil) (fun _ _ _ _ _ => (pe_ix (r := rIxT K) ix_tup (pv 1) pe_int (fun _ _ => rfl)))) (pe_lst (pa_cons (pe_ix (r := rIxT K) ix_tup (pv 0) pe_int (fun _ _ => rfl)) pa_nil))))) pss_nil)
      (pss_cons (ps_if (pt_cmpR (op_eqD hr.units) (pe_ix ix_kdict (pe_glob (v := .ref aAR) (by rfl) g_ARGUMENTS rfl) (pe_ix ix_tup (pv 0) pe_int (fun _ _ => rfl)) (fun _ _ => rfl)) (pe_tup (pa_cons pe_str pa_nil)) (nomark _)) (pss_one (ps_ret (pe_lst (pa_cons (pe_ix ix_tup (pv 0) pe_int (fun _ _ => rfl)) pa_nil)))) pss_nil)
      (pss_one (ps_ret (pe_lst pa_nil))))), ?_⟩
    by_cases hs : ∃ ps o, r = .sw ps o
    · obtain ⟨ps, o, rfl⟩ := hs
      obtain ⟨p, vs, rfl, npa, hq, ha⟩ := hp
      refine q_when (b := true) (et_test (ev_eqZ (ev_ix0 rfl ht atI_zero) (by decide +kernel))) (fun _ H1 x1 => ?_) (fun e => by cases e)
      have hq1 : RowAt K H1 p vs := RowAt.ex (K := K) hq x1
      have gl : vs.length ≤ 1000 := by
        have h1 := ha.len
        have h2 : (ps.map fun q => (q.2 : Int)).length + 1 ≤ 1000 := by
          have h3 : (Ins.sw ps o).goals.length = (ps.map fun q => (q.2 : Int)).length + 1 := by simp [Ins.goals]
          omega
        rw [List.length_map] at h2
        omega
      have gv : given vs.length (fun _ => true) (fun i => .int ((ps.getD i (0, 0)).2 : Nat)) = ps.map fun q => .int (q.2 : Nat) := by
        rw [ha.len]
        exact given_all ps _ _ fun i c hc => by rw [List.getD_eq_getElem?_getD, hc]; rfl
      have e : (Ins.sw ps o).goals.map V.int = (ps.map fun q => .int (q.2 : Nat)) ++ [.int (o : Nat)] := by simp [Ins.goals]
      refine s_retL (el_cat (xs := ps.map fun q => .int (q.2 : Nat)) (ys := [.int (o : Nat)]) ?_ (fun H2 x2 => el_lst (ea_cons (ev_ix0 rfl ((x1.trans x2) _ _ ht) rfl) ea_nil) (by show 1 ≤ 100000; decide)) (by rw [List.length_map, ← ha.len]; show vs.length + 1 ≤ _; omega)) fun r1 H2 hr1 x2 h2 => q r1 H2 (fresh_back x1 hr1) (x1.trans x2) (by rw [e]; exact h2)
      rw [← gv]
      refine el_lcRow (fun _ => true) _ (ev_ix0 rfl (x1 _ _ ht) rfl) hq1 (by omega) (fun _ => rfl) (fun _ _ _ _ _ => et_yes) fun i y H2 x2 hy _ => ?_
      obtain ⟨m, hm, t1, rfl, _, h1⟩ := ha.get hy
      exact ev_is (ev_ix0 rfl ((x1.trans x2) _ _ h1) rfl) (by rw [List.getD_eq_getElem?_getD, hm]; rfl)
    · have ns := notSw hp fun ps o e => hs ⟨ps, o, e⟩
      obtain ⟨ys, rfl, _⟩ := id hp.head
      refine q_when (b := false) (et_test (ev_eqZ (ev_ix0 rfl ht atI_zero) (decide_eq_false ns))) (fun e => by cases e) fun _ H1 x1 => ?_
      have cmp : ∀ {H0 : Hp} (b : Bool) (ds : List PyData), Ex H H0 → (∀ H2, DpAll K H2 (r.sorts.map V.str) ds) → SeqAt.shaped (.tuple ds) = true → PyData.eqv (.tuple ds) (.tuple [.str "jump"]) = b →
          EvT (tTest (tOp (rEqD K) (tOp (rIxD K w) (tC (.ref aAR)) (tOp (rIxT K) (tVar 0) (tC (.int 0)))) (tTup (tCons (tC (.str "jump")) tNil)))) [some (.ref t), none] H0 b := fun {H0} b ds x0 h1 h2 h3 => et_test (ev_opU (xs := [.str "jump"]) (x := .ref tz) (ev_op (x := .ref aAR) (y := .str r.word) ev_c (ev_ix0 rfl (x0 _ _ ht) atI_zero) fun H2 e2 Q' q' => ⟨aAR, _, .ref tz, rfl, rfl, ⟨es, nn, _, kD.at_, kD.lit, n1, rfl⟩, q' H2 (Ex.refl H2)⟩) (eu_tup (ea_cons ev_c ea_nil) (by show 1 ≤ 100000; decide)) fun r H2 h2' x2 => fun H3 x3 Q' q' => ⟨.tuple ds, .tuple [.str "jump"], .tup (hT _) (h1 _), .tup (st_of (x3 _ _ h2')) (.cons (.str _) .nil), h2, by decide +kernel, by rw [h3]; exact q' H3 (Ex.refl H3)⟩)
      cases r with
      | sw ps o => exact absurd rfl (fun e => hs ⟨ps, o, e⟩)
      | jp z g =>
        refine q_when (b := true) (cmp true [.str "jump"] x1 (fun _ => .cons (.str _) .nil) (by decide +kernel) (by decide +kernel)) (fun _ H2 x2 => ?_) (fun e => by cases e)
        obtain rfl := (List.cons.inj hp.1).2
        exact s_retL (xs := [.int (g : Nat)]) (el_lst (ea_cons (ev_ix0 rfl ((x1.trans x2) _ _ ht) rfl) ea_nil) (by show 1 ≤ 100000; decide)) fun p H3 hp3 x3 h3 => q p H3 (fresh_back (x1.trans x2) hp3) ((x1.trans x2).trans x3) h3
      | wd z =>
        refine q_when (b := false) (cmp false [] x1 (fun _ => .nil) (by decide +kernel) (by decide +kernel)) (fun e => by cases e) fun _ H2 x2 => ?_
        exact s_retL (el_lst ea_nil (by decide)) fun p H3 hp3 x3 h3 => q p H3 (fresh_back (x1.trans x2) hp3) ((x1.trans x2).trans x3) h3
      | ic g =>
        refine q_when (b := false) (cmp false [.str "int"] x1 (fun _ => .cons (.str _) .nil) (by decide +kernel) (by decide +kernel)) (fun e => by cases e) fun _ H2 x2 => ?_
        exact s_retL (el_lst ea_nil (by decide)) fun p H3 hp3 x3 h3 => q p H3 (fresh_back (x1.trans x2) hp3) ((x1.trans x2).trans x3) h3
      | il =>
        refine q_when (b := false) (cmp false [.str "local"] x1 (fun _ => .cons (.str _) .nil) (by decide +kernel) (by decide +kernel)) (fun e => by cases e) fun _ H2 x2 => ?_
        exact s_retL (el_lst ea_nil (by decide)) fun p H3 hp3 x3 h3 => q p H3 (fresh_back (x1.trans x2) hp3) ((x1.trans x2).trans x3) h3
      | iv =>
        refine q_when (b := false) (cmp false [.str "class", .str "name", .str "method"] x1 (fun _ => .cons (.str _) (.cons (.str _) (.cons (.str _) .nil))) (by decide +kernel) (by decide +kernel)) (fun e => by cases e) fun _ H2 x2 => ?_
        exact s_retL (el_lst ea_nil (by decide)) fun p H3 hp3 x3 h3 => q p H3 (fresh_back (x1.trans x2) hp3) ((x1.trans x2).trans x3) h3
      | nw =>
        refine q_when (b := false) (cmp false [.str "class"] x1 (fun _ => .cons (.str _) .nil) (by decide +kernel) (by decide +kernel)) (fun e => by cases e) fun _ H2 x2 => ?_
        exact s_retL (el_lst ea_nil (by decide)) fun p H3 hp3 x3 h3 => q p H3 (fresh_back (x1.trans x2) hp3) ((x1.trans x2).trans x3) h3
theorem ok_kept {f : Addr} {fd : FuncData} (F : FnP K "kept" sKept f fd) (B : Bt mg) : FnOk P w K mg base L2.CX0 1 f fd ["row"] spKept1 := by
  refine F.ok scKept (fun vs H Q E h => ?_) (fun cdv A outer s H vs Q E hr h => ?_)
  · obtain ⟨a, v, r, rfl, _⟩ := h
    rfl
  · obtain ⟨a, v, r, rfl, hI, hal, q⟩ := h
    obtain ⟨t, xs, rfl, nta, ht, hp⟩ := id hI
    refine ⟨_, PSs.nox (pss_cons (ps_if (pt_cmpR op_eq (pe_ix ix_tup (pv 0) pe_int (fun _ _ => rfl)) pe_str (nomark _)) (pss_one (ps_ret (pe_tup (pa_cons pe_str (pa_cons (pe_callTy call_tuple_of (by rfl) B.tuple (by decide +kernel) (pa_cons (pe_ix ix_tup (pv 0) pe_int (fun _ _ => rfl)) pa_nil)) (pa_cons (pe_ix ix_tup (pv 0) pe_int (fun _ _ => rfl)) pa_nil)))))) pss_nil)
      (pss_one (ps_ret (pv 0)))), ?_⟩
    by_cases hs : ∃ ps o, r = .sw ps o
    · obtain ⟨ps, o, rfl⟩ := hs
      obtain ⟨p, vs, rfl, npa, hq, ha⟩ := hp
      refine q_when (b := true) (et_test (ev_eqZ (ev_ix0 rfl ht atI_zero) (by decide +kernel))) (fun _ H1 x1 => ?_) (fun e => by cases e)
      have hq1 : RowAt K H1 p vs := RowAt.ex (K := K) hq x1
      have gone : ∀ (q1 : Addr) (H2 : Hp), Ex H1 H2 → H2 q1 = some (.tup vs) → q1 ≠ a → tCons (tOp (rIxT K) (tVar 0) (tC (.int 2))) tNil [some (.ref t)] H2 fun xs H3 => (V.str "switch" :: V.ref q1 :: xs).length ≤ sizeLine ∧ ∀ p1, H3 p1 = none → Q (.ref p1) (upd H3 p1 (.tup (V.str "switch" :: V.ref q1 :: xs))) := fun q1 H2 x2 h2 n1 => by
        refine rd_cons (rd_ev (ev_ix0 rfl ((x1.trans x2) _ _ ht) rfl) fun H3 x3 => rd_nil ⟨by show 3 ≤ sizeLine; decide, fun p1 hp1 => ?_⟩)
        have x03 := (x1.trans x2).trans x3
        refine q _ _ (x03.trans (Ex.new hp1)) ⟨p1, _, rfl, fun z => ?_, upd_same, q1, vs, rfl, n1, (x3.trans (Ex.new hp1)) _ _ h2, ha.imp fun _ _ k => k.kp (Kp.of (x03.trans (Ex.new hp1)))⟩
        cases e : H a with
        | none => exact hal e
        | some u => rw [z, x03 _ _ e] at hp1; cases hp1
      refine rd_ret (rd_tup (rd_cons (rd_c (rd_cons (rd_cb (rd_cons (rd_ev (ev_ix0 rfl (x1 _ _ ht) rfl) fun H2 x2 => rd_nil ?_)))))))
      refine ⟨p, vs, rfl, (hq1.ex x2).elim (fun h => .inl ⟨sq_of h, fun l hl => gone l _ (x2.trans (Ex.new hl)) upd_same fun z => ?_⟩) fun h => .inr ⟨st_of h, gone p H2 x2 h npa⟩⟩
      cases e : H a with
      | none => exact hal e
      | some u => rw [z, (x1.trans x2) _ _ e] at hl; cases hl
    · have ns := notSw hp fun ps o e => hs ⟨ps, o, e⟩
      obtain ⟨ys, rfl, _⟩ := id hp.head
      refine q_when (b := false) (et_test (ev_eqZ (ev_ix0 rfl ht atI_zero) (decide_eq_false ns))) (fun e => by cases e) fun _ H1 x1 => ?_
      refine s_ret (ev_var rfl) fun H2 x2 => q _ H2 (x1.trans x2) ⟨t, _, rfl, nta, (x1.trans x2) _ _ ht, ?_⟩
      cases r with
      | sw ps o => exact absurd ⟨ps, o, rfl⟩ hs
      | _ => exact hp
end
end N8

set_option maxHeartbeats 4000000
set_option autoImplicit false
namespace N8
open PySem PySem.Spec PyProof.Rows L2 Evl
open SX (S)
abbrev sKeptRows : Stmt := topS 65
theorem scKeptRows : FnScope ["rows", "index", "row", "target"] ["rows"] (L2.defScope sKeptRows) := ⟨rfl, rfl, rfl, by decide +kernel, rfl, by decide +kernel, by decide +kernel⟩
abbrev sKeptHandlers : Stmt := topS 66
theorem scKeptHandlers : FnScope ["handlers", "many", "number", "handler"] ["handlers", "many"] (L2.defScope sKeptHandlers) := ⟨rfl, rfl, rfl, by decide +kernel, rfl, by decide +kernel, by decide +kernel⟩
abbrev sIsHandler : Stmt := topS 67
theorem scIsHandler : FnScope ["handler", "many", "begin", "end", "target", "kind"] ["handler", "many"] (L2.defScope sIsHandler) := ⟨rfl, rfl, rfl, by decide +kernel, rfl, by decide +kernel, by decide +kernel⟩
abbrev sKeptFrames : Stmt := topS 68
theorem scKeptFrames : FnScope ["frames", "many", "least", "number", "frame", "index", "places", "stack"] ["frames", "many"] (L2.defScope sKeptFrames) := ⟨rfl, rfl, rfl, by decide +kernel, rfl, by decide +kernel, by decide +kernel⟩
abbrev sIsFrame : Stmt := topS 69
theorem scIsFrame : FnScope ["frame", "least", "many", "index", "places", "stack"] ["frame", "least", "many"] (L2.defScope sIsFrame) := ⟨rfl, rfl, rfl, by decide +kernel, rfl, by decide +kernel, by decide +kernel⟩
abbrev sIsRowOfEntries : Stmt := topS 70
theorem scIsRowOfEntries : FnScope ["thing", "many", "entry"] ["thing", "many"] (L2.defScope sIsRowOfEntries) := ⟨rfl, rfl, rfl, by decide +kernel, rfl, by decide +kernel, by decide +kernel⟩

theorem InsOk.goals {N : Nat} {r : Ins} (h : InsOk N r) : ∀ g ∈ r.goals, 0 ≤ g ∧ g < (N : Int) := by
  intro g hg
  cases r with
  | jp z k =>
    have h : k < N := h
    obtain rfl := List.mem_singleton.mp hg
    omega
  | sw ps o =>
    have h : SwOk N ps o := h
    rcases List.mem_append.mp hg with hg | hg
    · obtain ⟨q, hq, rfl⟩ := List.mem_map.mp hg
      have := (h.ok q hq).2.2.1
      omega
    · obtain rfl := List.mem_singleton.mp hg
      have := h.o
      omega
  | _ => cases hg
theorem InsOk.len {N : Nat} {r : Ins} (h : InsOk N r) : r.goals.length ≤ 1000 := by
  cases r with
  | jp z k => exact (by show 1 ≤ 1000; decide)
  | sw ps o =>
    have h : SwOk N ps o := h
    have := h.len
    show (ps.map (fun q => (q.2 : Int)) ++ [(o : Int)]).length ≤ 1000
    rw [List.length_append, List.length_map]
    show ps.length + 1 ≤ 1000
    omega
  | _ => exact Nat.zero_le _
/-- a handler: from, to, where, what -/
structure Hdl where
  b : Nat
  e : Nat
  t : Nat
  k : Bool
structure HdOk (N : Nat) (h : Hdl) : Prop where
  be : h.b < h.e
  e : h.e ≤ N
  t : h.t < N
def kV3 (k : Bool) : V := if k = true then .str "A" else .non
def HdAt (H : Hp) (v : V) (h : Hdl) : Prop := ∃ p, v = .ref p ∧ H p = some (.tup [.int (h.b : Nat), .int (h.e : Nat), .int (h.t : Nat), kV3 h.k])
def FrAt (H : Hp) (v : V) (i : Nat) : Prop := ∃ p e1 e2, v = .ref p ∧ H p = some (.tup [.int (i : Nat), .ref e1, .ref e2]) ∧ H e1 = some (.tup []) ∧ H e2 = some (.tup [])
theorem HdAt.kt {H H' : Hp} {v : V} {h : Hdl} (e : Kt H H') (k : HdAt H v h) : HdAt H' v h := by
  obtain ⟨p, rfl, hp⟩ := k
  exact ⟨p, rfl, e _ _ hp⟩
theorem FrAt.kt {H H' : Hp} {v : V} {i : Nat} (e : Kt H H') (k : FrAt H v i) : FrAt H' v i := by
  obtain ⟨p, e1, e2, rfl, h1, h2, h3⟩ := k
  exact ⟨p, e1, e2, rfl, e _ _ h1, e _ _ h2, e _ _ h3⟩
def spRows (K : PySem.W.Frag) : Sp := fun vs H Q _ => ∃ (a p : Addr) (xs : List V) (rs : List Ins), vs = [.ref p] ∧ RowAt K H p xs ∧ All2 (InsAt a H) xs rs ∧ (∀ r ∈ rs, InsOk rs.length r) ∧ 1 ≤ rs.length ∧ rs.length ≤ 1000 ∧ H a ≠ none ∧
  ∀ q ys H', H q = none → Ex H H' → H' q = some (.tup ys) → All2 (InsT a H') ys rs → Q (.ref q) H'
def spHand (K : PySem.W.Frag) : Sp := fun vs H Q _ => ∃ (v : V) (N : Nat) (h : Hdl), vs = [v, .int (N : Nat)] ∧ HdAt H v h ∧ HdOk N h ∧ RetV (.bl true) H Q
def spHands (K : PySem.W.Frag) : Sp := fun vs H Q _ => ∃ (p : Addr) (N : Nat) (xs : List V) (hs : List Hdl), vs = [.ref p, .int (N : Nat)] ∧ RowAt K H p xs ∧ All2 (HdAt H) xs hs ∧ (∀ h ∈ hs, HdOk N h) ∧ hs.length ≤ 1000 ∧ ∀ q H', Ex H H' → H' q = some (.tup xs) → Q (.ref q) H'
def spNoEnt (K : PySem.W.Frag) : Sp := fun vs H Q _ => ∃ (p : Addr) (n : Int), vs = [.ref p, .int n] ∧ H p = some (.tup []) ∧ RetV (.bl true) H Q
def spFrame (K : PySem.W.Frag) : Sp := fun vs H Q _ => ∃ (v : V) (lo N i : Nat), vs = [v, .int (lo : Nat), .int (N : Nat)] ∧ FrAt H v i ∧ lo ≤ i ∧ i < N ∧ RetV (.bl true) H Q
def spFrames (K : PySem.W.Frag) : Sp := fun vs H Q _ => ∃ (p : Addr) (N : Nat) (xs : List V) (fs : List Nat), vs = [.ref p, .int (N : Nat)] ∧ RowAt K H p xs ∧ All2 (FrAt H) xs fs ∧ (∀ i ∈ fs, i < N) ∧ fs.Pairwise (· < ·) ∧ fs.length ≤ 1000 ∧
  ∀ q ys H', Ex H H' → H' q = some (.tup ys) → All2 (FrAt H') ys fs → Q (.ref q) H'
section
variable {P : Program} {w : World} {K : PySem.W.Frag} {mg : Str → Option Value} {base : Heap}
theorem ok_keptRows {f : Addr} {fd : FuncData} (F : FnP K "_kept_rows" sKeptRows f fd) (B : Bt mg) (gM : ∃ t, mg "MOST_ROWS" = some (.int 65535 t)) (c_is_row : Cl P w K mg base L2.CX0 1 "is_row" ["thing"] (spRow K)) (c_is_instruction : Cl P w K mg base L2.CX0 10 "is_instruction" ["thing"] spIns)
    (c_has_right_pairs : Cl P w K mg base L2.CX0 2 "has_right_pairs" ["row"] spIns) (c_targets : Cl P w K mg base L2.CX0 1 "targets" ["row"] spTargets) (c_kept : Cl P w K mg base L2.CX0 1 "kept" ["row"] spKept1) : FnOk P w K mg base L2.CX0 11 f fd ["rows"] (spRows K) := by
  obtain ⟨tM, g_MOST_ROWS⟩ := gM
  refine F.ok scKeptRows (fun vs H Q E h => ?_) (fun cdv A outer s H vs Q E hr h => ?_)
  · obtain ⟨a, p, xs, rs, rfl, _⟩ := h
    rfl
  · obtain ⟨a, p, xs, rs, rfl, hp, hx, ok, h1, h9, hal, q⟩ := h
    have len := hx.len
    refine ⟨_, PSs.nox (pss_cons (ps_if (PW.pt (pw_or (pt_not (pt_val (pe_cl c_is_row hr (by decide) (by rfl) (pa_cons (pv 0) pa_nil)))) (pw_or1 (pt_not (pt_chain op_le op_le pe_int (pe_callB call_len_seq (by rfl) B.len PySem.boot_len (pa_cons (pv 0) pa_nil)) (pe_glob (v := .int 65535) (by rfl) g_MOST_ROWS ⟨_, rfl⟩)))))) (pss_one ps_never) pss_nil)
      (pss_cons (ps_for PassesOwn.never rfl (pi_enRow (by rfl) B.enumerate (pa_cons (pv 0) pa_nil)) (pg_tup rfl (pgs_cons (pg_name (i := 1) scKeptRows.nd rfl (.inl rfl)) (pgs_cons (pg_name (i := 2) scKeptRows.nd rfl (.inl rfl)) pgs_nil))) (pss_cons (ps_if (pt_not (pt_val (pe_cl c_is_instruction hr (by decide) (by rfl) (pa_cons (pv 2) pa_nil)))) (pss_one ps_never) pss_nil)
      (pss_cons (ps_if (pt_not (pt_val (pe_cl c_has_right_pairs hr (by decide) (by rfl) (pa_cons (pv 2) pa_nil)))) (pss_one ps_never) pss_nil)
      (pss_one (ps_if (pt_not (pt_val (pe_callB (cr_all rfl) (by rfl) B.all (by decide +kernel) (pa_cons (pe_lc (own := [("target", 3)]) (g := gName 3) (tt := tYes) rfl scKeptRows.nd (pi_list (pe_cl c_targets hr (by decide) (by rfl) (pa_cons (pv 2) pa_nil))) (blkOk_by (N := ["rows", "index", "row", "target"]) (sc := L2.defScope sKeptRows) (by decide +kernel)) (fun _ _ _ _ _ => pg_name (i := 3) scKeptRows.nd rfl (Or.inl rfl)) (fun _ _ _ _ _ => pts_nil) (fun _ _ _ _ _ => (pe_chain op_le op_lt pe_int (pv 3) (pe_callB (r := rLenS K) call_len_seq (by rfl) B.len PySem.boot_len (pa_cons (pv 0) pa_nil))))) pa_nil)))) (pss_one ps_never) pss_nil)))))
      (pss_one (ps_ret (pe_callTy call_tuple_of (by rfl) B.tuple (by decide +kernel) (pa_cons (pe_lc (own := [("row", 2)]) (g := gName 2) (tt := tYes) rfl scKeptRows.nd (pi_row (pv 0)) (blkOk_by (N := ["rows", "index", "row", "target"]) (sc := L2.defScope sKeptRows) (by decide +kernel)) (fun _ _ _ _ _ => pg_name (i := 2) scKeptRows.nd rfl (Or.inl rfl)) (fun _ _ _ _ _ => pts_nil) (fun _ _ _ _ _ => (pe_cl c_kept hr (by decide) (by rfl) (pa_cons (pv 2) pa_nil)))) pa_nil)))))), ?_⟩
    refine q_when (b := false) (et_is (et_or (a := false) (b := false) (et_is (et_not (et_test (ev_call (ea_cons (ev_var rfl) ea_nil) fun H1 e Q' q' E' => ⟨p, _, rfl, hp.ex e, q'⟩))) rfl) fun _ => et_is (et_not (et_test (ev_chain (a := true) (b := true) ev_c (ev_lenRow (ev_var rfl) hp) (rv_is rv_le (congrArg V.bl (decide_eq_true (by omega)))) fun _ => ⟨ev_c, rv_is rv_le (congrArg V.bl (decide_eq_true (by omega)))⟩))) rfl) rfl) (fun e => by cases e) fun _ H1 x1 => ?_
    refine q_forRow (ev_var rfl) (hp.ex x1) (fun i σ' H' => Ex H1 H' ∧ ∃ v1 v2 v3, σ' = [some (.ref p), v1, v2, v3]) (fun H2 x2 => ⟨x2, none, none, none, rfl⟩) (fun i σ' H' P => P.1) (fun i x σ' H' H2 hi P x2 => ?_) (fun σ' H' P => ?_)
    · obtain ⟨e, v1, v2, v3, rfl⟩ := P
      have e2 := x1.trans (e.trans x2)
      obtain ⟨r, hr', hI⟩ := hx.get hi
      have hm := ok r (List.mem_of_getElem? hr')
      refine q_when (b := false) (et_is (et_not (et_test (ev_call (ea_cons (ev_var rfl) ea_nil) fun H3 e3 Q' q' E' => ⟨a, x, r, rs.length, rfl, hI.ex (e2.trans e3), hm, h9, q'⟩))) rfl) (fun e => by cases e) fun _ H3 x3 => ?_
      have e3 := e2.trans x3
      refine q_when (b := false) (et_is (et_not (et_test (ev_call (ea_cons (ev_var rfl) ea_nil) fun H4 e4 Q' q' E' => ⟨a, x, r, rs.length, rfl, hI.ex (e3.trans e4), hm, h9, q'⟩))) rfl) (fun e => by cases e) fun _ H4 x4 => ?_
      have e4 := e3.trans x4
      refine s_when (b := false) (et_is (et_not (et_test (ev_allT (n := (r.goals.map V.int).length) (el_lcNL (xs := r.goals.map V.int) (fun _ => true) (fun _ => .bl true) (fun H5 e5 Q' q' => rd_call (rd_cons (rd_ev (ev_var rfl) fun H6 x6 => rd_nil ⟨a, x, r, rfl, hI.ex ((e4.trans e5).trans x6), hm.len, fun r7 H7 hr7 x7 h7 => q' r7 H7 (fresh_back x6 hr7) (x6.trans x7) h7⟩))) (by rw [List.length_map]; have := hm.len; omega) (fun _ => rfl) (fun _ _ _ _ _ => et_yes) fun j y H5 x5 hy _ => ?_)))) rfl) (fun e => by cases e) fun _ H5 x5 => ⟨(((e.trans x2).trans x3).trans x4).trans x5, _, _, _, rfl⟩
      rw [List.getElem?_map] at hy
      obtain ⟨g, hg, rfl⟩ := Option.map_eq_some_iff.mp hy
      have := hm.goals g (List.mem_of_getElem? hg)
      exact ev_is (ev_chain (a := true) (b := true) ev_c (ev_var rfl) (rv_is rv_le (congrArg V.bl (decide_eq_true this.1))) fun _ => ⟨ev_lenRow (ev_var rfl) (hp.ex (e4.trans x5)), rv_is rv_I0 (congrArg V.bl (decide_eq_true (by rw [len]; exact this.2)))⟩) rfl
    · obtain ⟨e, v1, v2, v3, rfl⟩ := P
      have e0 := x1.trans e
      refine rd_ret (rd_cb (rd_cons (lc_eachRow (fun i y G => ∀ r, rs[i]? = some r → InsT a G y r) (fun hD ex k r hi => (k r hi).kt (Kt.exa hD ex)) (ev_var rfl) (hp.ex e0) (by omega) (fun i x H2 hi x2 Q' q' => ?_) fun Dl ys H2 hD x2 h2 ly each => ?_)))
      · refine ⟨rfl, rd_call (rd_cons (rd_ev (ev_var rfl) fun H3 x3 => rd_nil ?_))⟩
        obtain ⟨r, hr', hI⟩ := hx.get hi
        refine ⟨a, x, r, rfl, hI.ex ((e0.trans x2).trans x3), (fun z => ?_), fun v' H4 x4 hT => q' v' H4 (x3.trans x4) fun r2 h2 => ?_⟩
        · cases k : H a with
          | none => exact hal k
          | some u => rw [((e0.trans x2).trans x3) _ _ k] at z; cases z
        · rw [hr'] at h2
          obtain rfl := Option.some.inj h2
          exact hT
      · refine rd_nil ⟨Dl, ys, rfl, .inl ⟨sq_of h2, fun l hl => q l ys _ (fresh_back (e0.trans x2) hl) ((e0.trans x2).trans (Ex.new hl)) upd_same ?_⟩⟩
        exact All2.mk (by omega) fun i y r hy hr => (each i y hy r hr).kt (Kt.of (Ex.new hl))
end
end N8

set_option maxHeartbeats 4000000
set_option autoImplicit false
namespace N8
open PySem PySem.Spec PyProof.Rows L2 Evl
open SX (S)
section
variable {P : Program} {w : World} {K : PySem.W.Frag} {mg : Str → Option Value} {base : Heap}
theorem ok_isHandler {f : Addr} {fd : FuncData} (F : FnP K "_is_handler" sIsHandler f fd) (B : Bt mg) (c_is_class_name : Cl P w K mg base L2.CX0 3 "is_class_name" ["thing"] (spName K isClassL)) (c_is_within : Cl P w K mg base L2.CX0 2 "is_within" ["thing", "low", "high"] spWithin) :
    FnOk P w K mg base L2.CX0 4 f fd ["handler", "many"] (spHand K) := by
  refine F.ok scIsHandler (fun vs H Q E h => ?_) (fun cdv A outer s H vs Q E hr h => ?_)
  · obtain ⟨v, N, h, rfl, _⟩ := h
    rfl
  · obtain ⟨v, N, h, rfl, ⟨p, rfl, hp⟩, ok, q⟩ := h
    have c1 : ("A" : Str) = S [65] := by decide +kernel
    have o1 := ok.be
    have o2 := ok.e
    have o3 := ok.t
    refine ⟨_, PSs.nox (pss_cons (ps_asg (pv 0) (pg_tup rfl (pgs_cons (pg_name (i := 2) scIsHandler.nd rfl (.inl rfl)) (pgs_cons (pg_name (i := 3) scIsHandler.nd rfl (.inl rfl)) (pgs_cons (pg_name (i := 4) scIsHandler.nd rfl (.inl rfl)) (pgs_cons (pg_name (i := 5) scIsHandler.nd rfl (.inl rfl)) pgs_nil))))))
      (pss_cons (ps_if (PW.pt (pw_and (pt_cmpR op_notN (pv 5) pe_non (nomark _)) (pw_and1 (pt_not (pt_val (pe_cl c_is_class_name hr (by decide) (by rfl) (pa_cons (pv 5) pa_nil))))))) (pss_one (ps_ret pe_bl)) pss_nil)
      (pss_one (ps_ret (pe_and (pe_cl c_is_within hr (by decide) (by rfl) (pa_cons (pv 2) (pa_cons pe_int (pa_cons (pe_op op_sub (pv 1) pe_int) pa_nil)))) (pe_and (pe_cl c_is_within hr (by decide) (by rfl) (pa_cons (pv 3) (pa_cons (pe_op op_add (pv 2) pe_int) (pa_cons (pv 1) pa_nil)))) (pe_one (pe_cl c_is_within hr (by decide) (by rfl) (pa_cons (pv 4) (pa_cons pe_int (pa_cons (pe_op op_sub (pv 1) pe_int) pa_nil))))))))))), ?_⟩
    refine ⟨.ref p, rfl, tup4 hp ?_⟩
    obtain ⟨hb, he, hT, hk⟩ := h
    dsimp only at hp o1 o2 o3 ⊢
    refine q_when (b := false) ?_ (fun e => by cases e) fun _ H1 x1 => ?_
    · cases hk with
      | false => exact et_is (et_and (a := false) (b := false) (et_test fun H1 e Q' q' => ⟨.non, rfl, rfl, q' H1 (Ex.refl H1)⟩) fun e => by cases e) rfl
      | true => exact et_is (et_and (a := true) (b := false) (et_test fun H1 e Q' q' => ⟨.str "A", rfl, rfl, q' H1 (Ex.refl H1)⟩) fun _ => et_is (et_not (a := true) (et_test (ev_call (ea_cons (ev_var rfl) ea_nil) fun H1 e1 Q' q' E' => ⟨.str "A", true, rfl, .inl ⟨[65], congrArg V.str c1, by decide, by decide +kernel⟩, q'⟩))) rfl) rfl
    refine s_ret (ev_is (ev_andV (a := true) (b := true) (ev_call (ea_cons (ev_var rfl) (ea_cons ev_c (ea_cons (ev_op (ev_var rfl) ev_c rv_I0) ea_nil))) fun H2 e Q' q' E' => ⟨_, _, _, true, rfl, .inl ⟨(hb : Nat), rfl, ?_⟩, q'⟩) fun _ => ev_is (ev_andV (a := true) (b := true) (ev_call (ea_cons (ev_var rfl) (ea_cons (ev_op (ev_var rfl) ev_c rv_I0) (ea_cons (ev_var rfl) ea_nil))) fun H2 e Q' q' E' => ⟨_, _, _, true, rfl, .inl ⟨(he : Nat), rfl, ?_⟩, q'⟩) fun _ => ev_call (ea_cons (ev_var rfl) (ea_cons ev_c (ea_cons (ev_op (ev_var rfl) ev_c rv_I0) ea_nil))) fun H2 e Q' q' E' => ⟨_, _, _, true, rfl, .inl ⟨(hT : Nat), rfl, ?_⟩, q'⟩) rfl) rfl) fun H2 x2 => q H2 (x1.trans x2)
    · rw [decide_eq_true (by omega), decide_eq_true (by omega)]; rfl
    · rw [decide_eq_true (by omega), decide_eq_true (by omega)]; rfl
    · rw [decide_eq_true (by omega), decide_eq_true (by omega)]; rfl
theorem ok_keptHandlers {f : Addr} {fd : FuncData} (F : FnP K "_kept_handlers" sKeptHandlers f fd) (B : Bt mg) (c_is_row : Cl P w K mg base L2.CX0 1 "is_row" ["thing"] (spRow K)) (c_is_tuple_of : Cl P w K mg base L2.CX0 1 "is_tuple_of" ["thing", "many"] (spTupOf K)) (c_is_handler : Cl P w K mg base L2.CX0 4 "_is_handler" ["handler", "many"] (spHand K)) :
    FnOk P w K mg base L2.CX0 5 f fd ["handlers", "many"] (spHands K) := by
  refine F.ok scKeptHandlers (fun vs H Q E h => ?_) (fun cdv A outer s H vs Q E hr h => ?_)
  · obtain ⟨p, N, xs, hs, rfl, _⟩ := h
    rfl
  · obtain ⟨p, N, xs, hs, rfl, hp, hx, ok, hl, q⟩ := h
    refine ⟨_, PSs.nox (pss_cons (ps_if (pt_not (pt_val (pe_cl c_is_row hr (by decide) (by rfl) (pa_cons (pv 0) pa_nil)))) (pss_one ps_never) pss_nil)
      (pss_cons (ps_for PassesOwn.never rfl (pi_enRow (by rfl) B.enumerate (pa_cons (pv 0) pa_nil)) (pg_tup rfl (pgs_cons (pg_name (i := 2) scKeptHandlers.nd rfl (.inl rfl)) (pgs_cons (pg_name (i := 3) scKeptHandlers.nd rfl (.inl rfl)) pgs_nil))) (pss_one (ps_if (PW.pt (pw_or (pt_not (pt_val (pe_cl c_is_tuple_of hr (by decide) (by rfl) (pa_cons (pv 3) (pa_cons pe_int pa_nil))))) (pw_or1 (pt_not (pt_val (pe_cl c_is_handler hr (by decide) (by rfl) (pa_cons (pv 3) (pa_cons (pv 1) pa_nil)))))))) (pss_one ps_never) pss_nil)))
      (pss_one (ps_ret (pe_callTy call_tuple_of (by rfl) B.tuple (by decide +kernel) (pa_cons (pv 0) pa_nil)))))), ?_⟩
    refine q_when (b := false) (et_is (et_not (et_test (ev_call (ea_cons (ev_var rfl) ea_nil) fun H1 e Q' q' E' => ⟨p, _, rfl, hp.ex e, q'⟩))) rfl) (fun e => by cases e) fun _ H1 x1 => ?_
    refine q_forRow (ev_var rfl) (hp.ex x1) (fun i σ' H' => Ex H1 H' ∧ ∃ v1 v2, σ' = [some (.ref p), some (.int (N : Nat)), v1, v2]) (fun H2 x2 => ⟨x2, none, none, rfl⟩) (fun i σ' H' P => P.1) (fun i x σ' H' H2 hi P x2 => ?_) (fun σ' H' P => ?_)
    · obtain ⟨e, v1, v2, rfl⟩ := P
      have e2 := x1.trans (e.trans x2)
      obtain ⟨h, hh, hI⟩ := hx.get hi
      have hm := ok h (List.mem_of_getElem? hh)
      obtain ⟨t, rfl, ht⟩ := id hI
      refine s_when (b := false) (et_is (et_or (a := false) (b := false) (et_is (et_not (et_test (ev_call (ea_cons (ev_var rfl) (ea_cons ev_c ea_nil)) fun H3 e3 Q' q' E' => ⟨t, [.int (h.b : Nat), .int (h.e : Nat), .int (h.t : Nat), kV3 h.k], rfl, (e2.trans e3) _ _ ht, (by show 4 ≤ 1000; decide), q'⟩))) rfl) fun _ => et_is (et_not (et_test (ev_call (ea_cons (ev_var rfl) (ea_cons (ev_var rfl) ea_nil)) fun H3 e3 Q' q' E' => ⟨.ref t, N, h, rfl, hI.kt (Kt.of (e2.trans e3)), hm, q'⟩))) rfl) rfl) (fun e => by cases e) fun _ H3 x3 => ⟨(e.trans x2).trans x3, _, _, rfl⟩
    · obtain ⟨e, v1, v2, rfl⟩ := P
      have e0 := x1.trans e
      refine rd_ret (rd_cb (rd_cons (rd_ev (ev_var rfl) fun H2 x2 => rd_nil ⟨p, xs, rfl, (hp.ex (e0.trans x2)).elim (fun h => .inl ⟨sq_of h, fun l hl => q l _ ((e0.trans x2).trans (Ex.new hl)) upd_same⟩) fun h => .inr ⟨st_of h, q p H2 (e0.trans x2) h⟩⟩)))
theorem ok_rowOfEntries {f : Addr} {fd : FuncData} (F : FnP K "_is_row_of_entries" sIsRowOfEntries f fd) (B : Bt mg) (gM : ∃ t, mg "MOST_ENTRIES" = some (.int 255 t)) (c_is_row : Cl P w K mg base L2.CX0 1 "is_row" ["thing"] (spRow K)) : FnOk P w K mg base L2.CX0 2 f fd ["thing", "many"] (spNoEnt K) := by
  obtain ⟨tM, g_MOST_ENTRIES⟩ := gM
  refine F.ok scIsRowOfEntries (fun vs H Q E h => ?_) (fun cdv A outer s H vs Q E hr h => ?_)
  · obtain ⟨p, n, rfl, _⟩ := h
    rfl
  · obtain ⟨p, n, rfl, hp, q⟩ := h
    refine ⟨_, PSs.nox (pss_one (ps_ret (pe_and (pe_cl c_is_row hr (by decide) (by rfl) (pa_cons (pv 0) pa_nil)) (pe_and (pe_cmpR op_le (pe_callB call_len_seq (by rfl) B.len PySem.boot_len (pa_cons (pv 0) pa_nil)) (pe_glob (v := .int 255) (by rfl) g_MOST_ENTRIES ⟨_, rfl⟩) (nomark _)) (pe_one (pe_callB (cr_all rfl) (by rfl) B.all (by decide +kernel) (pa_cons (pe_lc (own := [("entry", 2)]) (g := gName 2) (tt := tYes) rfl scIsRowOfEntries.nd (pi_row (pv 0)) (blkOk_by (N := ["thing", "many", "entry"]) (sc := L2.defScope sIsRowOfEntries) (by decide +kernel)) (fun _ _ _ _ _ => pg_name (i := 2) scIsRowOfEntries.nd rfl (Or.inl rfl)) (fun _ _ _ _ _ => pts_nil) (fun _ _ _ _ _ => pe_never)) pa_nil))))))), ?_⟩
    have hp1 : RowAt K H p [] := .inr hp
    exact s_ret (ev_is (ev_andV (a := true) (b := true) (ev_call (ea_cons (ev_var rfl) ea_nil) fun H1 e Q' q' E' => ⟨p, _, rfl, hp1.ex e, q'⟩) fun _ => ev_is (ev_andV (a := true) (b := true) (ev_op (ev_lenRow (ev_var rfl) hp1) ev_c (rv_is rv_le (congrArg V.bl (by decide)))) fun _ => ev_allT (n := 0) (el_lcRow (xs := []) (fun _ => true) (fun _ => .bl true) (ev_var rfl) hp1 (by decide) (fun _ => rfl) (fun _ _ _ _ _ => et_yes) fun i x H1 _ h => by simp at h)) rfl) rfl) q
theorem ok_isFrame {f : Addr} {fd : FuncData} (F : FnP K "_is_frame" sIsFrame f fd) (B : Bt mg) (c_is_within : Cl P w K mg base L2.CX0 2 "is_within" ["thing", "low", "high"] spWithin) (c_is_row_of_entries : Cl P w K mg base L2.CX0 2 "_is_row_of_entries" ["thing", "many"] (spNoEnt K)) :
    FnOk P w K mg base L2.CX0 3 f fd ["frame", "least", "many"] (spFrame K) := by
  refine F.ok scIsFrame (fun vs H Q E h => ?_) (fun cdv A outer s H vs Q E hr h => ?_)
  · obtain ⟨v, lo, N, i, rfl, _⟩ := h
    rfl
  · obtain ⟨v, lo, N, i, rfl, ⟨p, e1, e2, rfl, hp, h1, h2⟩, o1, o2, q⟩ := h
    refine ⟨_, PSs.nox (pss_cons (ps_asg (pv 0) (pg_tup rfl (pgs_cons (pg_name (i := 3) scIsFrame.nd rfl (.inl rfl)) (pgs_cons (pg_name (i := 4) scIsFrame.nd rfl (.inl rfl)) (pgs_cons (pg_name (i := 5) scIsFrame.nd rfl (.inl rfl)) pgs_nil)))))
      (pss_one (ps_ret (pe_and (pe_cl c_is_within hr (by decide) (by rfl) (pa_cons (pv 3) (pa_cons (pv 1) (pa_cons (pe_op op_sub (pv 2) pe_int) pa_nil)))) (pe_and (pe_cl c_is_row_of_entries hr (by decide) (by rfl) (pa_cons (pv 4) (pa_cons (pv 2) pa_nil))) (pe_one (pe_cl c_is_row_of_entries hr (by decide) (by rfl) (pa_cons (pv 5) (pa_cons (pv 2) pa_nil))))))))), ?_⟩
    refine ⟨.ref p, rfl, tup3 (st_of hp) ?_⟩
    refine s_ret (ev_is (ev_andV (a := true) (b := true) (ev_call (ea_cons (ev_var rfl) (ea_cons (ev_var rfl) (ea_cons (ev_op (ev_var rfl) ev_c rv_I0) ea_nil))) fun H2 e Q' q' E' => ⟨_, _, _, true, rfl, .inl ⟨(i : Nat), rfl, ?_⟩, q'⟩) fun _ => ev_is (ev_andV (a := true) (b := true) (ev_call (ea_cons (ev_var rfl) (ea_cons (ev_var rfl) ea_nil)) fun H2 e Q' q' E' => ⟨e1, _, rfl, e _ _ h1, q'⟩) fun _ => ev_call (ea_cons (ev_var rfl) (ea_cons (ev_var rfl) ea_nil)) fun H2 e Q' q' E' => ⟨e2, _, rfl, e _ _ h2, q'⟩) rfl) rfl) q
    rw [decide_eq_true (by omega), decide_eq_true (by omega)]; rfl
theorem ok_keptFrames {f : Addr} {fd : FuncData} (F : FnP K "_kept_frames" sKeptFrames f fd) (B : Bt mg) (c_is_row : Cl P w K mg base L2.CX0 1 "is_row" ["thing"] (spRow K)) (c_is_tuple_of : Cl P w K mg base L2.CX0 1 "is_tuple_of" ["thing", "many"] (spTupOf K)) (c_is_frame : Cl P w K mg base L2.CX0 3 "_is_frame" ["frame", "least", "many"] (spFrame K)) :
    FnOk P w K mg base L2.CX0 4 f fd ["frames", "many"] (spFrames K) := by
  refine F.ok scKeptFrames (fun vs H Q E h => ?_) (fun cdv A outer s H vs Q E hr h => ?_)
  · obtain ⟨p, N, xs, fs, rfl, _⟩ := h
    rfl
  · obtain ⟨p, N, xs, fs, rfl, hp, hx, ok, asc, hl, q⟩ := h
    have len := hx.len
    refine ⟨_, PSs.nox (pss_cons (ps_if (pt_not (pt_val (pe_cl c_is_row hr (by decide) (by rfl) (pa_cons (pv 0) pa_nil)))) (pss_one ps_never) pss_nil)
      (pss_cons (ps_set (i := 2) scKeptFrames.nd rfl (.inl rfl) pe_int)
      (pss_cons (ps_for PassesOwn.never rfl (pi_enRow (by rfl) B.enumerate (pa_cons (pv 0) pa_nil)) (pg_tup rfl (pgs_cons (pg_name (i := 3) scKeptFrames.nd rfl (.inl rfl)) (pgs_cons (pg_name (i := 4) scKeptFrames.nd rfl (.inl rfl)) pgs_nil))) (pss_cons (ps_if (PW.pt (pw_or (pt_not (pt_val (pe_cl c_is_tuple_of hr (by decide) (by rfl) (pa_cons (pv 4) (pa_cons pe_int pa_nil))))) (pw_or1 (pt_not (pt_val (pe_cl c_is_frame hr (by decide) (by rfl) (pa_cons (pv 4) (pa_cons (pv 2) (pa_cons (pv 1) pa_nil))))))))) (pss_one ps_never) pss_nil)
      (pss_one (ps_set (i := 2) scKeptFrames.nd rfl (.inl rfl) (pe_op op_add (pe_ix ix_tup (pv 4) pe_int (fun _ _ => rfl)) pe_int)))))
      (pss_one (ps_ret (pe_callTy call_tuple_of (by rfl) B.tuple (by decide +kernel) (pa_cons (pe_lc (own := [("index", 5), ("places", 6), ("stack", 7)]) (g := gTup K 3 (gCons (gName 5) (gCons (gName 6) (gCons (gName 7) gNil)))) (tt := tYes) rfl scKeptFrames.nd (pi_row (pv 0)) (blkOk_by (N := ["frames", "many", "least", "number", "frame", "index", "places", "stack"]) (sc := L2.defScope sKeptFrames) (by decide +kernel)) (fun _ _ _ _ _ => (pg_tup rfl (pgs_cons (pg_name (i := 5) scKeptFrames.nd rfl (.inl rfl)) (pgs_cons (pg_name (i := 6) scKeptFrames.nd rfl (.inl rfl)) (pgs_cons (pg_name (i := 7) scKeptFrames.nd rfl (.inl rfl)) pgs_nil))))) (fun _ _ _ _ _ => pts_nil) (fun _ _ _ _ _ => (pe_tup (pa_cons (pv 5) (pa_cons (pe_callTy (r := rTupOf K) call_tuple_of (by rfl) B.tuple (by decide +kernel) (pa_cons (pv 6) pa_nil)) (pa_cons (pe_callTy (r := rTupOf K) call_tuple_of (by rfl) B.tuple (by decide +kernel) (pa_cons (pv 7) pa_nil)) pa_nil)))))) pa_nil))))))), ?_⟩
    refine q_when (b := false) (et_is (et_not (et_test (ev_call (ea_cons (ev_var rfl) ea_nil) fun H1 e Q' q' E' => ⟨p, _, rfl, hp.ex e, q'⟩))) rfl) (fun e => by cases e) fun _ H1 x1 => ?_
    refine q_asg ev_c fun H2 x2 => ?_
    have x12 := x1.trans x2
    refine q_forRow (ev_var rfl) (hp.ex x12) (fun i σ' H' => Ex H2 H' ∧ ∃ (lo : Nat) (v3 v4 : Option V), σ' = [some (.ref p), some (.int (N : Nat)), some (.int (lo : Nat)), v3, v4, none, none, none] ∧ ∀ j, fs[i]? = some j → lo ≤ j) (fun H3 x3 => ⟨x3, 0, none, none, rfl, fun _ _ => Nat.zero_le _⟩) (fun i σ' H' P => P.1) (fun i x σ' H' H3 hi P x3 => ?_) (fun σ' H' P => ?_)
    · obtain ⟨e, lo, v3, v4, rfl, hlo⟩ := P
      have e3 := x12.trans (e.trans x3)
      obtain ⟨j, hj, hF⟩ := hx.get hi
      have hm := ok j (List.mem_of_getElem? hj)
      obtain ⟨t, e1, e2, rfl, ht, _, _⟩ := id hF
      refine q_when (b := false) (et_is (et_or (a := false) (b := false) (et_is (et_not (et_test (ev_call (ea_cons (ev_var rfl) (ea_cons ev_c ea_nil)) fun H4 e4 Q' q' E' => ⟨t, [.int (j : Nat), .ref e1, .ref e2], rfl, (e3.trans e4) _ _ ht, (by show 3 ≤ 1000; decide), q'⟩))) rfl) fun _ => et_is (et_not (et_test (ev_call (ea_cons (ev_var rfl) (ea_cons (ev_var rfl) (ea_cons (ev_var rfl) ea_nil))) fun H4 e4 Q' q' E' => ⟨.ref t, lo, N, j, rfl, hF.kt (Kt.of (e3.trans e4)), hlo j hj, hm, q'⟩))) rfl) rfl) (fun e => by cases e) fun _ H4 x4 => ?_
      refine s_asg (v := .int ((j + 1 : Nat) : Int)) (ev_is (ev_op (ev_ix0 rfl ((e3.trans x4) _ _ ht) rfl) ev_c rv_I0) (congrArg V.int (by omega))) fun H5 x5 => ⟨((e.trans x3).trans x4).trans x5, j + 1, _, _, rfl, fun k hk => ?_⟩
      obtain ⟨k1, rfl⟩ := List.getElem?_eq_some_iff.mp hj
      obtain ⟨k2, rfl⟩ := List.getElem?_eq_some_iff.mp hk
      exact (List.pairwise_iff_getElem.mp asc) i (i + 1) k1 k2 (by omega)
    · obtain ⟨e, lo, v3, v4, rfl, _⟩ := P
      have e0 := x12.trans e
      refine rd_ret (rd_cb (rd_cons (lc_eachRow (fun i y G => ∀ r, fs[i]? = some r → FrAt G y r) (fun hD ex k r hi => (k r hi).kt (Kt.exa hD ex)) (ev_var rfl) (hp.ex e0) (by omega) (fun i x H3 hi x3 Q' q' => ?_) fun Dl ys H3 hD x3 h3 ly each => ?_)))
      · obtain ⟨j, hj, t, e1, e2, rfl, ht, h1, h2⟩ := hx.get hi
        have e3 := e0.trans x3
        refine tup3 (st_of (e3 _ _ ht)) ⟨rfl, rd_tup (rd_cons (rd_ev (ev_var rfl) fun H4 x4 => rd_cons (rd_cb (rd_cons (rd_ev (ev_var rfl) fun H5 x5 => rd_nil ⟨e1, [], rfl, .inr ⟨st_of (((e3.trans x4).trans x5) _ _ h1), rd_cons (rd_cb (rd_cons (rd_ev (ev_var rfl) fun H6 x6 => rd_nil ⟨e2, [], rfl, .inr ⟨st_of ((((e3.trans x4).trans x5).trans x6) _ _ h2), rd_nil ⟨by show 3 ≤ sizeLine; decide, fun p1 hp1 => q' _ _ (((x4.trans x5).trans x6).trans (Ex.new hp1)) fun r hr => ?_⟩⟩⟩)))⟩⟩)))))⟩
        rw [hj] at hr
        obtain rfl := Option.some.inj hr
        have e7 := (((e3.trans x4).trans x5).trans x6).trans (Ex.new (o := .tup [.int (j : Nat), .ref e1, .ref e2]) hp1)
        exact ⟨p1, e1, e2, rfl, upd_same, e7 _ _ h1, e7 _ _ h2⟩
      · refine rd_nil ⟨Dl, ys, rfl, .inl ⟨sq_of h3, fun l hl => q l ys _ ((e0.trans x3).trans (Ex.new hl)) upd_same ?_⟩⟩
        exact All2.mk (by omega) fun i y r hy hr => (each i y hy r hr).kt (Kt.of (Ex.new hl))
end
end N8

set_option maxHeartbeats 4000000
set_option autoImplicit false
namespace N8
open PySem PySem.Spec PyProof.Rows L2 Evl
open SX (S)
abbrev sCodeInit : Stmt := (inCls (topS 56)).getD 0 (.Pass ⟨0, 0, 0, 0⟩)
theorem scCodeInit : FnScope ["self", "stack", "places", "rows", "handlers", "frames"] ["self", "stack", "places", "rows", "handlers", "frames"] (L2.defScope sCodeInit) := ⟨rfl, rfl, rfl, by decide +kernel, rfl, by decide +kernel, by decide +kernel⟩

/-- a code, by its parts -/
structure CodeS where
  st : Nat
  rs : List Ins
  hs : List Hdl
  fr : List Nat
structure CodeOk (C : CodeS) : Prop where
  st : C.st ≤ 255
  r1 : 1 ≤ C.rs.length
  r9 : C.rs.length ≤ 1000
  rs : ∀ r ∈ C.rs, InsOk C.rs.length r
  hs : ∀ h ∈ C.hs, HdOk C.rs.length h
  hl : C.hs.length ≤ 1000
  fr : ∀ i ∈ C.fr, i < C.rs.length
  fa : C.fr.Pairwise (· < ·)
  fl : C.fr.length ≤ 1000
def CodeFs (a : Addr) (H : Hp) (fs : List (Str × V)) (C : CodeS) : Prop := ∃ qr qh qf yr yh yf, List.lookup ("stack" : Str) fs = some (.int (C.st : Nat)) ∧ List.lookup ("places" : Str) fs = some (.int 4) ∧ List.lookup ("rows" : Str) fs = some (.ref qr) ∧ List.lookup ("handlers" : Str) fs = some (.ref qh) ∧ List.lookup ("frames" : Str) fs = some (.ref qf) ∧
  H qr = some (.tup yr) ∧ All2 (InsT a H) yr C.rs ∧ H qh = some (.tup yh) ∧ All2 (HdAt H) yh C.hs ∧ H qf = some (.tup yf) ∧ All2 (FrAt H) yf C.fr
def CodeAt (K : PySem.W.Frag) (a : Addr) (H : Hp) (x : Addr) (C : CodeS) : Prop := ∃ dx fs, H x = some (.ins (cl K "Code") dx fs) ∧ CodeFs a H fs C
def ArgsC (K : PySem.W.Frag) (a : Addr) (H : Hp) (C : CodeS) (us : List V) : Prop := ∃ p ph pf xs xh xf, us = [.int (C.st : Nat), .int 4, .ref p, .ref ph, .ref pf] ∧ RowAt K H p xs ∧ All2 (InsAt a H) xs C.rs ∧ RowAt K H ph xh ∧ All2 (HdAt H) xh C.hs ∧ RowAt K H pf xf ∧ All2 (FrAt H) xf C.fr
theorem CodeFs.kt {a : Addr} {H H' : Hp} {fs : List (Str × V)} {C : CodeS} (e : Kt H H') (h : CodeFs a H fs C) : CodeFs a H' fs C := by
  obtain ⟨qr, qh, qf, yr, yh, yf, l1, l2, l3, l4, l5, h1, h2, h3, h4, h5, h6⟩ := h
  exact ⟨qr, qh, qf, yr, yh, yf, l1, l2, l3, l4, l5, e _ _ h1, h2.imp fun _ _ k => k.kt e, e _ _ h3, h4.imp fun _ _ k => k.kt e, e _ _ h5, h6.imp fun _ _ k => k.kt e⟩
theorem CodeAt.ex {K : PySem.W.Frag} {a x : Addr} {H H' : Hp} {C : CodeS} (e : Ex H H') (h : CodeAt K a H x C) : CodeAt K a H' x C := by
  obtain ⟨dx, fs, h1, h2⟩ := h
  exact ⟨dx, fs, e _ _ h1, h2.kt (Kt.of e)⟩
theorem RowAt.exi {K : PySem.W.Frag} {p s C dx : Addr} {fs : List (Str × V)} {xs : List V} {H H' : Hp} (h : H s = some (.ins C dx fs)) (e : Exa s H H') (k : RowAt K H p xs) : RowAt K H' p xs :=
  k.imp (fun k => e _ _ (fun z => by rw [z, h] at k; cases k) k) fun k => e _ _ (fun z => by rw [z, h] at k; cases k) k
theorem ArgsC.exi {K : PySem.W.Frag} {a s D dx : Addr} {fs : List (Str × V)} {C : CodeS} {us : List V} {H H' : Hp} (h : H s = some (.ins D dx fs)) (e : Exa s H H') (k : ArgsC K a H C us) : ArgsC K a H' C us := by
  obtain ⟨p, ph, pf, xs, xh, xf, rfl, h1, h2, h3, h4, h5, h6⟩ := k
  exact ⟨p, ph, pf, xs, xh, xf, rfl, h1.exi h e, h2.imp fun _ _ k => k.kp (Kp.exi h e), h3.exi h e, h4.imp fun _ _ k => k.kt (Kt.exi h e), h5.exi h e, h6.imp fun _ _ k => k.kt (Kt.exi h e)⟩
/-- Code, as its own methods ask -/
structure CKK (K : PySem.W.Frag) : Prop where
  c : Cls K (cl K "Code")
  no : ∀ f ∈ (["stack", "places", "rows", "handlers", "frames"] : List Str), NoAttr K (cl K "Code") f
def spCodeI (K : PySem.W.Frag) : Sp := fun vs H Q _ => ∃ (a s dx : Addr) (C : CodeS) (us : List V), vs = .ref s :: us ∧ H s = some (.ins (cl K "Code") dx []) ∧ ArgsC K a H C us ∧ CodeOk C ∧ H a ≠ none ∧
  ∀ H', Exa s H H' → CodeAt K a H' s C → Q .non H'
section
variable {K : PySem.W.Frag} {σ : L2.St} {H : Hp} {te : TE} {v : V}
theorem ev_fld {a C dx : Addr} {fs : List (Str × V)} {f : Str} (h : Ev te σ H (.ref a)) (ha : H a = some (.ins C dx fs)) (c : Cls K C) (no : NoAttr K C f) (hl : fs.lookup f = some v) : Ev (tFld K te f) σ H v := fun H1 e Q q =>
  h H1 e _ fun H2 e2 => ⟨a, C, dx, fs, v, rfl, (e.trans e2) _ _ ha, c, no, hl, q H2 e2⟩
end
section
variable {P : Program} {w : World} {K : PySem.W.Frag} {mg : Str → Option Value} {base : Heap}
theorem ok_codeI {f : Addr} {fd : FuncData} (F : FunD K "__init__" "Code.__init__" (L2.defArgs sCodeInit) (L2.defBody sCodeInit) (L2.defScope sCodeInit) [] [] f fd) (B : Bt mg) (ck : CKK K) (gM : ∃ t, mg "MOST_PLACES" = some (.int 255 t)) (c_is_within : Cl P w K mg base L2.CX0 2 "is_within" ["thing", "low", "high"] spWithin)
    (c_kept_rows : Cl P w K mg base L2.CX0 11 "_kept_rows" ["rows"] (spRows K)) (c_kept_handlers : Cl P w K mg base L2.CX0 5 "_kept_handlers" ["handlers", "many"] (spHands K)) (c_kept_frames : Cl P w K mg base L2.CX0 4 "_kept_frames" ["frames", "many"] (spFrames K)) :
    FnOk P w K mg base L2.CX0 12 f fd ["self", "stack", "places", "rows", "handlers", "frames"] (spCodeI K) := by
  obtain ⟨tM, g_MOST_PLACES⟩ := gM
  refine F.ok scCodeInit (fun vs H Q E h => ?_) (fun cdv A outer s H vs Q E hr h => ?_)
  · obtain ⟨a, s, dx, C, us, rfl, _, ⟨_, _, _, _, _, _, rfl, _⟩, _⟩ := h
    rfl
  · obtain ⟨a, x, dx, C, us, rfl, hs, hA, ok, hal, q⟩ := h
    obtain ⟨p, ph, pf, xs, xh, xf, rfl, h1, h2, h3, h4, h5, h6⟩ := id hA
    have o1 := ok.st
    have alloc : ∀ {G : Hp}, Exa x H G → G x ≠ none → G a ≠ none := fun {G} e n z => by
      by_cases k : a = x
      · rw [k] at z; exact n z
      · cases u : H a with
        | none => exact hal u
        | some o => rw [e _ _ k u] at z; cases z
    refine ⟨_, PSs.nox (pss_cons (ps_if (pt_not (pt_val (pe_cl c_is_within hr (by decide) (by rfl) (pa_cons (pv 1) (pa_cons pe_int (pa_cons (pe_glob (v := .int 255) (by rfl) g_MOST_PLACES ⟨_, rfl⟩) pa_nil)))))) (pss_one ps_never) pss_nil)
      (pss_cons (ps_if (pt_not (pt_val (pe_cl c_is_within hr (by decide) (by rfl) (pa_cons (pv 2) (pa_cons pe_int (pa_cons (pe_glob (v := .int 255) (by rfl) g_MOST_PLACES ⟨_, rfl⟩) pa_nil)))))) (pss_one ps_never) pss_nil)
      (pss_cons (ps_fld (pv 0) (pv 1) rfl)
      (pss_cons (ps_fld (pv 0) (pv 2) rfl)
      (pss_cons (ps_fld (pv 0) (pe_cl c_kept_rows hr (by decide) (by rfl) (pa_cons (pv 3) pa_nil)) rfl)
      (pss_cons (ps_fld (pv 0) (pe_cl c_kept_handlers hr (by decide) (by rfl) (pa_cons (pv 4) (pa_cons (pe_callB call_len_seq (by rfl) B.len PySem.boot_len (pa_cons (pe_fld (pv 0) rfl) pa_nil)) pa_nil))) rfl)
      (pss_one (ps_fld (pv 0) (pe_cl c_kept_frames hr (by decide) (by rfl) (pa_cons (pv 5) (pa_cons (pe_callB call_len_seq (by rfl) B.len PySem.boot_len (pa_cons (pe_fld (pv 0) rfl) pa_nil)) pa_nil))) rfl)))))))), ?_⟩
    refine q_when (b := false) (et_is (et_not (et_test (ev_call (ea_cons (ev_var rfl) (ea_cons ev_c (ea_cons ev_c ea_nil))) fun H1 e Q' q' E' => ⟨_, 0, 255, true, rfl, .inl ⟨(C.st : Nat), rfl, by rw [decide_eq_true (by omega), decide_eq_true (by omega)]; rfl⟩, q'⟩))) rfl) (fun e => by cases e) fun _ H1 x1 => ?_
    refine q_when (b := false) (et_is (et_not (et_test (ev_call (ea_cons (ev_var rfl) (ea_cons ev_c (ea_cons ev_c ea_nil))) fun H2 e Q' q' E' => ⟨_, 0, 255, true, rfl, .inl ⟨4, rfl, rfl⟩, q'⟩))) rfl) (fun e => by cases e) fun _ H2 x2 => ?_
    have e2 := x1.trans x2
    refine q_fldV ck.c (ck.no _ (by decide)) rfl (ev_var rfl) (e2 _ _ hs) (by decide) fun H3 x3 h3' => ?_
    have A3 : Exa x H (upd H3 x (.ins (cl K "Code") dx (putF "stack" (.int (C.st : Nat)) []))) := (Exa.of (e2.trans x3)).trans exa_upd
    refine q_fldV ck.c (ck.no _ (by decide)) rfl (ev_var rfl) upd_same (Nat.le_of_ble_eq_true rfl) fun H4 x4 h4' => ?_
    have A4 : Exa x H (upd H4 x (.ins (cl K "Code") dx (putF "places" (.int 4) (putF "stack" (.int (C.st : Nat)) [])))) := (A3.trans (Exa.of x4)).trans exa_upd
    refine rd_fld (rd_call (rd_cons (rd_ev (ev_var rfl) fun H5 x5 => rd_nil ?_)))
    have A5 := A4.trans (Exa.of x5)
    have hs5 := x5 _ _ (upd_same (H := H4) (a := x) (o := .ins (cl K "Code") dx (putF "places" (.int 4) (putF "stack" (.int (C.st : Nat)) []))))
    refine ⟨a, p, xs, C.rs, rfl, h1.exi hs A5, h2.imp fun _ _ k => k.kp (Kp.exi hs A5), ok.rs, ok.r1, ok.r9, alloc A5 (by rw [hs5]; exact fun z => by cases z), fun qr yr H6 hqr x6 h6' hT => ⟨.ref x, rfl, x, _, dx, _, rfl, x6 _ _ hs5, ck.c, ck.no _ (by decide), Nat.le_of_ble_eq_true rfl, ?_⟩⟩
    have hs6 := x6 _ _ hs5
    have nqr : qr ≠ x := fun z => by rw [z, hs6] at h6'; cases h6'
    have T7 : Kt H6 (upd H6 x (.ins (cl K "Code") dx (putF "rows" (.ref qr) (putF "places" (.int 4) (putF "stack" (.int (C.st : Nat)) []))))) := Kt.exi hs6 exa_upd
    have A7 := (A5.trans (Exa.of x6)).trans (exa_upd (a := x) (H := H6) (o := .ins (cl K "Code") dx (putF "rows" (.ref qr) (putF "places" (.int 4) (putF "stack" (.int (C.st : Nat)) [])))))
    have hs7 : (upd H6 x (.ins (cl K "Code") dx (putF "rows" (.ref qr) (putF "places" (.int 4) (putF "stack" (.int (C.st : Nat)) []))))) x = _ := upd_same
    generalize upd H6 x (.ins (cl K "Code") dx (putF "rows" (.ref qr) (putF "places" (.int 4) (putF "stack" (.int (C.st : Nat)) [])))) = H7 at T7 A7 hs7 ⊢
    have hq7 := T7 _ _ h6'
    have hT7 := hT.imp fun _ _ k => k.kt T7
    have lr := hT.len
    refine rd_fld (rd_call (rd_cons (rd_ev (ev_var rfl) fun H8 x8 => rd_cons (rd_ev (ev_lenTup (ev_fld (v := .ref qr) (ev_var rfl) (x8 _ _ hs7) ck.c (ck.no _ (by decide)) rfl) (x8 _ _ hq7)) fun H9 x9 => rd_nil ?_))))
    have x79 := x8.trans x9
    have A9 := A7.trans (Exa.of x79)
    rw [lr]
    refine ⟨ph, C.rs.length, xh, C.hs, rfl, h3.exi hs A9, h4.imp fun _ _ k => k.kt (Kt.exi hs A9), ok.hs, ok.hl, fun qh H10 x10 h10 => ⟨.ref x, rfl, x, _, dx, _, rfl, (x79.trans x10) _ _ hs7, ck.c, ck.no _ (by decide), Nat.le_of_ble_eq_true rfl, ?_⟩⟩
    have hs10 := (x79.trans x10) _ _ hs7
    have T11 : Kt H10 (upd H10 x (.ins (cl K "Code") dx (putF "handlers" (.ref qh) (putF "rows" (.ref qr) (putF "places" (.int 4) (putF "stack" (.int (C.st : Nat)) [])))))) := Kt.exi hs10 exa_upd
    have A11 := (A9.trans (Exa.of x10)).trans (exa_upd (a := x) (H := H10) (o := .ins (cl K "Code") dx (putF "handlers" (.ref qh) (putF "rows" (.ref qr) (putF "places" (.int 4) (putF "stack" (.int (C.st : Nat)) []))))))
    have hs11 : (upd H10 x (.ins (cl K "Code") dx (putF "handlers" (.ref qh) (putF "rows" (.ref qr) (putF "places" (.int 4) (putF "stack" (.int (C.st : Nat)) [])))))) x = _ := upd_same
    generalize upd H10 x (.ins (cl K "Code") dx (putF "handlers" (.ref qh) (putF "rows" (.ref qr) (putF "places" (.int 4) (putF "stack" (.int (C.st : Nat)) []))))) = H11 at T11 A11 hs11 ⊢
    have T711 := (Kt.of (x79.trans x10)).trans T11
    dsimp only
    refine rd_fldL (rd_call (rd_cons (rd_ev (ev_var rfl) fun H12 x12 => rd_cons (rd_ev (ev_lenTup (ev_fld (v := .ref qr) (ev_var rfl) (x12 _ _ hs11) ck.c (ck.no _ (by decide)) rfl) (x12 _ _ (T711 _ _ hq7))) fun H13 x13 => rd_nil ?_))))
    have x113 := x12.trans x13
    have A13 := A11.trans (Exa.of x113)
    rw [lr]
    refine ⟨pf, C.rs.length, xf, C.fr, rfl, h5.exi hs A13, h6.imp fun _ _ k => k.kt (Kt.exi hs A13), ok.fr, ok.fa, ok.fl, fun qf yf H14 x14 h14 hF => ⟨.ref x, rfl, x, _, dx, _, rfl, (x113.trans x14) _ _ hs11, ck.c, ck.no _ (by decide), Nat.le_of_ble_eq_true rfl, ?_⟩⟩
    have hs14 := (x113.trans x14) _ _ hs11
    have T15 : Kt H14 (upd H14 x (.ins (cl K "Code") dx (putF "frames" (.ref qf) (putF "handlers" (.ref qh) (putF "rows" (.ref qr) (putF "places" (.int 4) (putF "stack" (.int (C.st : Nat)) []))))))) := Kt.exi hs14 exa_upd
    have T1115 := (Kt.of (x113.trans x14)).trans T15
    have T715 := T711.trans T1115
    have T1015 := T11.trans T1115
    exact q _ ((A13.trans (Exa.of x14)).trans exa_upd) ⟨dx, _, upd_same, qr, qh, qf, yr, xh, yf, rfl, rfl, rfl, rfl, rfl, T715 _ _ hq7, hT7.imp fun _ _ k => k.kt T715, T1015 _ _ h10, (h4.imp fun _ _ k => k.kt (((Kt.exi hs A9).trans (Kt.of x10)).trans T1015)), T15 _ _ h14, hF.imp fun _ _ k => k.kt T15⟩
end
end N8

set_option maxHeartbeats 4000000
set_option autoImplicit false
namespace N8
open PySem PySem.Spec PyProof.Rows L2 Evl
open SX (S)
abbrev sIsWhole : Stmt := topS 74
theorem scIsWhole : FnScope ["code"] ["code"] (L2.defScope sIsWhole) := ⟨rfl, rfl, rfl, by decide +kernel, rfl, by decide +kernel, by decide +kernel⟩
abbrev sNeeded : Stmt := topS 73
theorem scNeeded : FnScope ["code", "found", "index", "row", "target", "handler"] ["code"] (L2.defScope sNeeded) := ⟨rfl, rfl, rfl, by decide +kernel, rfl, by decide +kernel, by decide +kernel⟩

/-! ### dicts of whole numbers -/
def IntD (kvs : List (Key × V)) (P : Int → Prop) : Prop := ∃ ks : List Int, kvs.map (·.1) = ks.map Sum.inl ∧ ks.Nodup ∧ ∀ k, k ∈ ks ↔ P k
theorem IntD.nil : IntD [] fun _ => False := ⟨[], rfl, .nil, fun k => by simp⟩
theorem IntD.congr {kvs : List (Key × V)} {P P' : Int → Prop} (h : IntD kvs P) (e : ∀ k, P k ↔ P' k) : IntD kvs P' := by
  obtain ⟨ks, h1, h2, h3⟩ := h
  exact ⟨ks, h1, h2, fun k => (h3 k).trans (e k)⟩
theorem IntD.put {kvs : List (Key × V)} {P : Int → Prop} (h : IntD kvs P) (k : Int) (v : V) : IntD (putK kvs (Sum.inl k : Key) v) fun j => P j ∨ j = k := by
  obtain ⟨ks, h1, h2, h3⟩ := h
  by_cases hk : k ∈ ks
  · have hm : (kvs.any fun kv => decide (kv.1 = (Sum.inl k : Key))) = true := by
      have : (Sum.inl k : Key) ∈ kvs.map (·.1) := by rw [h1]; exact List.mem_map_of_mem hk
      obtain ⟨kv, hkv, e⟩ := List.mem_map.mp this
      exact List.any_eq_true.mpr ⟨kv, hkv, decide_eq_true e⟩
    refine ⟨ks, ?_, h2, fun j => ?_⟩
    · unfold putK
      rw [if_pos hm, List.map_map, ← h1]
      refine List.map_congr_left fun kv _ => ?_
      show (if kv.1 = _ then _ else kv).1 = kv.1
      split <;> rfl
    · exact ⟨fun h => .inl ((h3 j).mp h), fun h => h.elim (h3 j).mpr fun e => e ▸ hk⟩
  · have hm : ¬ (kvs.any fun kv => decide (kv.1 = (Sum.inl k : Key))) = true := fun hm => by
      obtain ⟨kv, hkv, e⟩ := List.any_eq_true.mp hm
      have : (Sum.inl k : Key) ∈ kvs.map (·.1) := List.mem_map.mpr ⟨kv, hkv, of_decide_eq_true e⟩
      rw [h1] at this
      obtain ⟨j, hj, e2⟩ := List.mem_map.mp this
      exact hk (Sum.inl.inj e2 ▸ hj)
    refine ⟨ks ++ [k], ?_, ?_, fun j => ?_⟩
    · unfold putK
      rw [if_neg hm, List.map_append, List.map_append, h1]
      rfl
    · exact List.nodup_append.mpr ⟨h2, by simp, fun a ha b hb => by
        obtain rfl := List.mem_singleton.mp hb
        exact fun e => hk (e ▸ ha)⟩
    · show j ∈ ks ++ [k] ↔ P j ∨ j = k
      rw [List.mem_append, h3 j, List.mem_singleton]
def lastW : List Str := ["goto", "switch", "athrow", "ireturn", "lreturn", "areturn", "return"]
def Ins.last (r : Ins) : Bool := decide (r.word ∈ lastW)
/-- the indexes that are needed -/
def NeedR (C : CodeS) (n : Nat) (k : Int) : Prop := (∃ h ∈ C.hs, k = (h.t : Nat)) ∨ ∃ j r, j < n ∧ C.rs[j]? = some r ∧ (k ∈ r.goals ∨ (r.last = true ∧ j + 1 < C.rs.length ∧ k = ((j + 1 : Nat) : Int)))
def spWhole (K : PySem.W.Frag) : Sp := fun vs H Q _ => ∃ (a x : Addr) (C : CodeS), vs = [.ref x] ∧ CodeAt K a H x C ∧ CodeOk C ∧ H a ≠ none ∧ RetV (.bl true) H Q
def spNeeded (K : PySem.W.Frag) : Sp := fun vs H Q _ => ∃ (a x : Addr) (C : CodeS), vs = [.ref x] ∧ CodeAt K a H x C ∧ CodeOk C ∧ H a ≠ none ∧
  ∀ (ns : List Int), ns.Pairwise (· < ·) → (∀ k, k ∈ ns ↔ NeedR C C.rs.length k) → RetL (ns.map V.int) H Q
structure MkCo (P : Program) (w : World) (K : PySem.W.Frag) (mg : Str → Option Value) (base : Heap) : Prop where
  m : mg "Code" = some (.ref (cl K "Code"))
  ex : ∃ (f : Addr) (fd : FuncData), Mk K (cl K "Code") f ∧ FnOk P w K mg base L2.CX0 12 f fd ["self", "stack", "places", "rows", "handlers", "frames"] (spCodeI K) ∧ Binds K fd ["self", "stack", "places", "rows", "handlers", "frames"] []
section
variable {X : Cx} {j : Nat} {e : Expr} {es : List Expr} {ta : TA} {p pos : Pos}
theorem MkCo.pe (M : MkCo X.prog X.w X.K X.mg X.base) (hr : Room j X.A) (hk : 13 ≤ j) (hg : Gl X "Code") (ha : PA X (e :: es) ta) (he : starEach (e :: es) X.env = (false, eval e X.env) :: starEach es X.env := by rfl) (hpl : (backTo pos (starEach es X.env)).any (·.1) = false := by rfl) :
    PE X (.Call (.Name "Code" p) (e :: es) [] pos) (tMake (cl X.K "Code") (spCodeI X.K) [] L2.E0 ta) := by
  obtain ⟨f, fd, mk, F, b⟩ := M.ex
  exact pe_make mk F (hr.mono hk) hg M.m b .nil L2.pass0 ha (by decide) he hpl
end
section
variable {K : PySem.W.Frag} {σ : L2.St} {H H' : Hp} {te ta tb tl : TE} {tq tr : TA} {r : R2} {v x : V} {D : Ends} {tz tu : TS} {Q : VK}
theorem new_ins {H1 : Hp} {x dx C : Addr} (hx : H1 x = none) (hdx : H1 dx = none) : Ex H1 (upd (upd H1 dx (.own x)) x (.ins C dx [])) := fun b o hb => by rw [upd_ne (ne_of_none hb hx), upd_ne (ne_of_none hb hdx)]; exact hb
theorem ArgsC.ex {a : Addr} {C : CodeS} {us : List V} {H H' : Hp} (e : Ex H H') (k : ArgsC K a H C us) : ArgsC K a H' C us := by
  obtain ⟨p, ph, pf, xs, xh, xf, rfl, h1, h2, h3, h4, h5, h6⟩ := k
  exact ⟨p, ph, pf, xs, xh, xf, rfl, h1.ex e, h2.imp fun _ _ k => k.ex e, h3.ex e, h4.imp fun _ _ k => k.kt (Kt.of e), h5.ex e, h6.imp fun _ _ k => k.kt (Kt.of e)⟩
theorem make_code {H1 : Hp} {a x dx : Addr} {C : CodeS} {us : List V} {R : Hp → Prop} (hx : H1 x = none) (hdx : H1 dx = none) (hA : ArgsC K a H1 C us) (ok : CodeOk C) (hal : H1 a ≠ none) (k : ∀ H2, Ex H1 H2 → CodeAt K a H2 x C → R H2) :
    spCodeI K (.ref x :: (us ++ [])) (upd (upd H1 dx (.own x)) x (.ins (cl K "Code") dx [])) (fun v H2 => v = .non ∧ R H2) L2.E0 := by
  have e1 := new_ins (C := cl K "Code") hx hdx
  rw [List.append_nil]
  refine ⟨a, x, dx, C, us, rfl, upd_same, hA.ex e1, ok, fun z => ?_, fun H' xa hf => ⟨rfl, k H' (fun b o hb => xa b o (ne_of_none hb hx) (e1 b o hb)) hf⟩⟩
  cases u : H1 a with
  | none => exact hal u
  | some o => rw [e1 _ _ u] at z; cases z
theorem rd_mk {C : Addr} {sp : Sp} (h : tq σ H fun vs H1 => ∀ x dx, H1 x = none → H1 dx = none → dx ≠ x → sp (.ref x :: (vs ++ [])) (upd (upd H1 dx (.own x)) x (.ins C dx [])) (fun v H2 => v = .non ∧ Q (.ref x) H2) L2.E0) : tMake C sp [] L2.E0 tq σ H Q := h
end
theorem CodeAt.args {K : PySem.W.Frag} {a x : Addr} {H : Hp} {C : CodeS} (h : CodeAt K a H x C) : ∃ dx fs us, H x = some (.ins (cl K "Code") dx fs) ∧ (∃ v1 v2 v3 v4 v5, us = [v1, v2, v3, v4, v5] ∧ List.lookup ("stack" : Str) fs = some v1 ∧ List.lookup ("places" : Str) fs = some v2 ∧ List.lookup ("rows" : Str) fs = some v3 ∧ List.lookup ("handlers" : Str) fs = some v4 ∧ List.lookup ("frames" : Str) fs = some v5) ∧ ArgsC K a H C us := by
  obtain ⟨dx, fs, hs, qr, qh, qf, yr, yh, yf, l1, l2, l3, l4, l5, h1, h2, h3, h4, h5, h6⟩ := h
  exact ⟨dx, fs, _, hs, ⟨_, _, _, _, _, rfl, l1, l2, l3, l4, l5⟩, qr, qh, qf, yr, yh, yf, rfl, .inr h1, h2.imp fun _ _ k => k.at_, .inr h3, h4, .inr h5, h6⟩
section
variable {P : Program} {w : World} {K : PySem.W.Frag} {mg : Str → Option Value} {base : Heap}
theorem ok_isWhole {f : Addr} {fd : FuncData} (F : FnP K "_is_whole" sIsWhole f fd) (B : Bt mg) (ck : CKK K) (MC : MkCo P w K mg base) (gN : ∃ C, mg "NoForm" = some (.ref C)) : FnOk P w K mg base L2.CX0 14 f fd ["code"] (spWhole K) := by
  obtain ⟨CN, gN⟩ := gN
  refine F.ok scIsWhole (fun vs H Q E h => ?_) (fun cdv A outer s H vs Q E hr h => ?_)
  · obtain ⟨a, x, C, rfl, _⟩ := h
    rfl
  · obtain ⟨a, x, C, rfl, hC, ok, hal, q⟩ := h
    refine ⟨_, PSs.nox (pss_cons (ps_try_many (tb := fun W => tDrop (tMake (cl K "Code") (spCodeI K) [] L2.E0 (tCons (tFld K (tVar 0) "stack") (tCons (tFld K (tVar 0) "places") (tCons (tFld K (tVar 0) "rows") (tCons (tFld K (tVar 0) "handlers") (tCons (tFld K (tVar 0) "frames") tNil))))))) (Wout := fun _ _ _ _ => False) rfl rfl takes0
      (fun W pn xe tk _ => pss_one (ps_expr (by exact (MkCo.pe MC hr (by decide) (by rfl) (pa_cons (pe_fld (pv 0) rfl) (pa_cons (pe_fld (pv 0) rfl) (pa_cons (pe_fld (pv 0) rfl) (pa_cons (pe_fld (pv 0) rfl) (pa_cons (pe_fld (pv 0) rfl) pa_nil)))))))))
      (.cons (ts := fun _ _ _ => tRet (tC (.bl false))) ⟨rfl, by decide, Or.inl gN⟩ (fun a oe cls d pn hz hf => pss_one (ps_ret (by exact pe_bl))) .nil)) (pss_one (ps_ret pe_bl))), ?_⟩
    obtain ⟨dx, fs, us, hs, ⟨v1, v2, v3, v4, v5, rfl, l1, l2, l3, l4, l5⟩, hA⟩ := hC.args
    have fl : ∀ {H1 : Hp} {z : Str} {v : V}, Ex H H1 → z ∈ (["stack", "places", "rows", "handlers", "frames"] : List Str) → List.lookup z fs = some v → Ev (tFld K (tVar 0) z) [some (.ref x)] H1 v := fun e hz l => ev_fld (ev_var rfl) (e _ _ hs) ck.c (ck.no _ hz) l
    have e0 := Ex.refl H
    have ea : EvA (tCons (tFld K (tVar 0) "stack") (tCons (tFld K (tVar 0) "places") (tCons (tFld K (tVar 0) "rows") (tCons (tFld K (tVar 0) "handlers") (tCons (tFld K (tVar 0) "frames") tNil))))) [some (.ref x)] H [v1, v2, v3, v4, v5] :=
      ea_cons (fl e0 (by decide) l1) (ea_cons (fl e0 (by decide) l2) (ea_cons (fl e0 (by decide) l3) (ea_cons (fl e0 (by decide) l4) (ea_cons (fl e0 (by decide) l5) ea_nil))))
    refine rd_seq (show tDrop _ _ _ _ from rd_mk ?_)
    refine ea H e0 _ fun H1 x1 y dy hy hdy _ => ?_
    refine make_code hy hdy (hA.ex x1) ok (fun z => ?_) fun H2 x2 _ => ?_
    · cases u : H a with
      | none => exact hal u
      | some o => rw [x1 _ _ u] at z; cases z
    · exact q H2 (x1.trans x2)
end
end N8

set_option maxHeartbeats 4000000
set_option autoImplicit false
/-! x = {.. : .. for .. in ..}, x a plain local -/
namespace N8
open PySem PySem.Spec PyProof.Rows L2 Evl
section
variable {X : Cx}
theorem swD {kx vx : Expr} {gs : List Comprehension} {scope : Scope} {pos py : Pos} {y : Str} {l : Nat} {env : Env} (hk : env.scope.kind = .function) (hy : env.scope.names.lookup y = some .local) (hl : (py.line == pos.line) = true)
    (ha : (scope.names.any fun (n, k) => n == y && (k == .local || k == .cell)) = false) : swapsWith (.DictComp kx vx gs scope pos) (some (.Name y py)) l env = pure true := by
  have a : env.kindOf y = some .local := hy
  have b : env.blockKind = .function := by
    unfold Env.blockKind
    rw [hk] <;> rfl
  unfold swapsWith
  simp only [a, b, ha, Expr.pos, hl] <;> rfl
theorem ps_setDc {i : Nat} {y : Str} {py : Pos} {kx vx tg iter : Expr} {ifs : List Expr} {scope : Scope} {own : List (Str × Nat)} {pos spos : Pos} {wi : TI} {g : TG} {tt : TT} {tk tv : TE} (hc : X.calm = true) (hN : X.N.Nodup) (hy : X.N[i]? = some y) (hyl : X.env.scope.names.lookup y = some .local)
    (hsw : swapsWith (.DictComp kx vx [⟨tg, iter, ifs, 0⟩] scope pos) (some (.Name y py)) spos.line X.env = pure true) (hi : PI X tg iter wi) (ok : BlkOk X.N X.env.scope scope own)
    (hg : ∀ (s : Shared) (H : Hp) (C : Addr) (cl : List (Str × Addr)) (fp : List Addr), PG (X.blk s H scope (compEnvC scope cl C X.env) fp) tg g) (ht : ∀ (s : Shared) (H : Hp) (C : Addr) (cl : List (Str × Addr)) (fp : List Addr), PTs (X.blk s H scope (compEnvC scope cl C X.env) fp) ifs tt)
    (hk : ∀ (s : Shared) (H : Hp) (C : Addr) (cl : List (Str × Addr)) (fp : List Addr), PE (X.blk s H scope (compEnvC scope cl C X.env) fp) kx tk) (he : ∀ (s : Shared) (H : Hp) (C : Addr) (cl : List (Str × Addr)) (fp : List Addr), PE (X.blk s H scope (compEnvC scope cl C X.env) fp) vx tv)
    (hs : ∀ x, foldedSetIterable iter X.env x = pure x := by intro _; rfl) :
    PS X (.Assign [.Name y py] (.DictComp kx vx [⟨tg, iter, ifs, 0⟩] scope pos) spos) (tAsg (tDc wi g tt tk tv (own.map (·.2))) (gName i)) := by
  refine ⟨fun pins s σ H D I h => ?_⟩
  rw [exec_Assign_Name_used _ _ _ _ hsw]
  refine wpAny_bind (wpAny_standAt (wpAny_bind (show wpAny _ X.A (do let _ ← comprehension (.DictComp kx vx [⟨tg, iter, ifs, 0⟩] scope pos) scope X.env (firstIterPos [⟨tg, iter, ifs, 0⟩] pos) newDict false (eval iter X.env) (some (assign (.Name y py) X.env))) _ _ s from ?_)))
  refine wpAny_bind (thn (dc_core (Q := fun x H1 => gName i x σ H1 D.nx) (Qf := fun _ s' => SP X pins D .next s') hc hN I hi ok hg ht hk he hs h fun L C s' m H' I' q hn f => ?_) fun _ s' hq => wpAny_pure (wpAny_pure hq))
  refine (show wpAny _ _ (assign (.Name y py) X.env (.ref L)) _ _ _ from wpAny_assign_Name (store_ok2 (v := V.ref L) I' hN hy (.inl hyl) rfl (fun s2 I2 z => ?_) (.inr hyl)))
  obtain ⟨a, sb, ha⟩ := z
  obtain ⟨f0, f1, f2, f3, f4, f5⟩ := f
  have apart : C ≠ a := ha.elim (fun z => by rw [z]; exact f1) fun z e => f4 y a z e.symm
  exact ⟨m, hn.sameBut sb apart, fun h3 sb3 => ⟨_, H', I2.turned (t' := s2.toks) (fun b o hb e => (sb3.2 b hb).trans e) f0 f1 f3 f4 f5, q⟩⟩
end
end N8

set_option maxHeartbeats 4000000
set_option autoImplicit false
namespace N8
open PySem PySem.Spec PyProof.Rows L2 Evl
open SX (S)
section
variable {K : PySem.W.Frag} {σ : L2.St} {H H' : Hp} {te ta tb tl : TE} {t : TT} {r : R2} {v x : V} {D : Ends} {tz tu : TS} {Q : VK}
theorem s_forEn {a : Addr} {xs : List V} {tl : TE} {j k : Nat} (h : Ev tl σ H (.ref a)) (hx : SqT K H a xs) (Pv : Nat → L2.St → Hp → Prop) (h0 : ∀ H1, Ex H H1 → Pv 0 σ H1) (hl : ∀ i σ' H', Pv i σ' H' → SqT K H' a xs)
    (hs : ∀ i x σ' H' H2, xs[i]? = some x → Pv i σ' H' → Ex H' H2 → tu { D with nx := Pv (i + 1), ct := Pv (i + 1), bk := D.nx } ((σ'.set j (some (.int (i : Nat)))).set k (some x)) H2) (hd : ∀ σ' H', Pv xs.length σ' H' → D.nx σ' H') :
    tFor (EN.iEnT K (tCons tl tNil)) (gTup K 2 (gCons (gName j) (gCons (gName k) gNil))) tu D σ H :=
  h H (Ex.refl H) _ fun H1 e => ⟨a, xs, rfl, ex_t e hx, for_enT Pv (h0 H1 e) hl (fun i x σ' H' T hi hp hT => tup2 (st_of upd_same) (hs i x σ' H' _ hi hp (Ex.new hT))) hd⟩
theorem q_forEn {a : Addr} {xs : List V} {tl : TE} {j k : Nat} (h : Ev tl σ H (.ref a)) (hx : SqT K H a xs) (Pv : Nat → L2.St → Hp → Prop) (h0 : ∀ H1, Ex H H1 → Pv 0 σ H1) (hl : ∀ i σ' H', Pv i σ' H' → SqT K H' a xs)
    (hs : ∀ i x σ' H' H2, xs[i]? = some x → Pv i σ' H' → Ex H' H2 → tu { D with nx := Pv (i + 1), ct := Pv (i + 1), bk := tz D } ((σ'.set j (some (.int (i : Nat)))).set k (some x)) H2) (hd : ∀ σ' H', Pv xs.length σ' H' → tz D σ' H') :
    tSeq (tFor (EN.iEnT K (tCons tl tNil)) (gTup K 2 (gCons (gName j) (gCons (gName k) gNil))) tu) tz D σ H := s_forEn (D := { D with nx := tz D }) h hx Pv h0 hl hs hd
theorem dc_goT {a : Addr} {xs : List V} {g : TG} {tt : TT} {tk tv : TE} {vs : List Nat} (h : Ev tl σ H (.ref a)) (hx : SqT K H a xs)
    (go : ∀ H1, Ex H H1 → ∀ Dl, H1 Dl = none → ∃ W : Nat → Nat → Hp → Prop, (∃ m, W 0 m (upd H1 Dl (.dK []))) ∧ ∀ i m H, W i m H → ((Itt K a).stop i H ∧ Q (.ref Dl) H) ∨ ((Itt K a).go i H ∧ ∃ Nx : Hp → Prop, (∀ H', Nx H' → ∃ m', m' < m ∧ W (i + 1) m' H') ∧ ∀ x H', (Itt K a).yld i H x H' → g x (wipe σ vs) H' fun σ2 H2 => wipe σ2 vs = wipe σ vs ∧ tt σ2 H2 fun b H3 =>
      if b = true then tk σ2 H3 fun y H4 => tv σ2 H4 fun z H5 => ∃ kvs k, y = kV k ∧ H5 Dl = some (.dK kvs) ∧ kvs.length < sizeLine ∧ Nx (upd H5 Dl (.dK (putK kvs k z))) else Nx H3)) :
    tDc (iTup K tl) g tt tk tv vs σ H Q := h H (Ex.refl H) _ fun H1 e => ⟨a, rfl, ⟨xs, ex_t e hx⟩, go H1 e⟩
/-- found[k] = True -/
theorem s_put {Dl : Addr} {kvs : List (Key × V)} {i : Nat} {k : Int} (hi : σ[i]? = some (some (.ref Dl))) (hk : Ev te σ H (.int k)) (hD : H Dl = some (.dK kvs)) (hl : kvs.length < 100000) (q : ∀ H1, Ex H H1 → D.nx σ (upd H1 Dl (.dK (putK kvs (Sum.inl k : Key) (.bl true))))) :
    tAsg (tC (.bl true)) (gSub (tVar i) te rSetD) D σ H := ⟨.ref Dl, hi, hk H (Ex.refl H) _ fun H1 e => ⟨Dl, _, rfl, DPut.k (k := (Sum.inl k : Key)) (e _ _ hD) (sz_lt hl), q H1 e⟩⟩
end
theorem Exa.kt {D : Addr} {kvs : List (Key × V)} {H H' : Hp} (h : H D = some (.dK kvs)) (e : Exa D H H') : Kt H H' := fun b xs k => e b _ (fun z => by rw [z, h] at k; cases k) k
theorem goals11 {N : Nat} {r : Ins} (h : InsOk N r) : r.goals.length ≤ 11 := by
  cases r with
  | jp z k => exact (by show 1 ≤ 11; decide)
  | sw ps o =>
    have h : SwOk N ps o := h
    have := h.len
    show (ps.map (fun q => (q.2 : Int)) ++ [(o : Int)]).length ≤ 11
    rw [List.length_append, List.length_map]
    show ps.length + 1 ≤ 11
    omega
  | _ => exact Nat.zero_le _
section
variable {P : Program} {w : World} {K : PySem.W.Frag} {mg : Str → Option Value} {base : Heap}
/-- Code, as isinstance asks -/
structure CoI (K : PySem.W.Frag) (mg : Str → Option Value) : Prop where
  g : mg "Code" = some (.ref (cl K "Code"))
  i : C8.InsC K (cl K "Code")
  me : PySem.W.kitOne K (.ref (cl K "Code")) (.ref (cl K "Code")) = some true
theorem ok_needed {f : Addr} {fd : FuncData} (F : FnP K "needed" sNeeded f fd) (B : Bt mg) (ck : CKK K) (ci : CoI K mg) (gL : ∃ a, mg "LAST_WORDS" = some (.ref a) ∧ ∀ H, SqT K H a (lastW.map V.str)) (c_is_whole : Cl P w K mg base L2.CX0 14 "_is_whole" ["code"] (spWhole K)) (c_targets : Cl P w K mg base L2.CX0 1 "targets" ["row"] spTargets) :
    FnOk P w K mg base L2.CX0 15 f fd ["code"] (spNeeded K) := by
  have g_Code := ci.g
  obtain ⟨aLW, g_LAST_WORDS, hLW⟩ := gL
  refine F.ok scNeeded (fun vs H Q E h => ?_) (fun cdv A outer s H vs Q E hr h => ?_)
  · obtain ⟨a, x, C, rfl, _⟩ := h
    rfl
  · obtain ⟨a, x, C, rfl, hC, ok, hal, q⟩ := h
    refine ⟨_, PSs.nox (pss_cons (ps_if (PW.pt (pw_or (pt_not (pt_val (pe_callB call_isi (by rfl) B.isi (by decide +kernel) (pa_cons (pv 0) (pa_cons (pe_glob (v := .ref (cl K "Code")) (by rfl) g_Code rfl) pa_nil))))) (pw_or1 (pt_not (pt_val (pe_cl c_is_whole hr (by decide) (by rfl) (pa_cons (pv 0) pa_nil))))))) (pss_one ps_never) pss_nil)
      (pss_cons (ps_setDc (i := 1) (own := [("handler", 5)]) (g := gName 5) (tt := tYes) rfl scNeeded.nd rfl rfl (swD rfl rfl rfl (by decide +kernel)) (pi_tup (pe_fld (pv 0) rfl)) (blkOk_by (N := ["code", "found", "index", "row", "target", "handler"]) (sc := L2.defScope sNeeded) (by decide +kernel)) (fun _ _ _ _ _ => pg_name (i := 5) scNeeded.nd rfl (Or.inl rfl)) (fun _ _ _ _ _ => pts_nil) (fun _ _ _ _ _ => (pe_ix (r := rIxT K) ix_tup (pv 5) pe_int (fun _ _ => rfl))) (fun _ _ _ _ _ => pe_bl))
      (pss_cons (ps_for PassesOwn.never rfl (EN.pi_enT (by rfl) B.enumerate (pa_cons (pe_fld (pv 0) rfl) pa_nil)) (pg_tup rfl (pgs_cons (pg_name (i := 2) scNeeded.nd rfl (.inl rfl)) (pgs_cons (pg_name (i := 3) scNeeded.nd rfl (.inl rfl)) pgs_nil))) (pss_cons (ps_for PassesOwn.never rfl (pi_list (pe_cl c_targets hr (by decide) (by rfl) (pa_cons (pv 3) pa_nil))) (pg_name (i := 4) scNeeded.nd rfl (.inl rfl)) (pss_one (ps_asg pe_bl (pg_sub (pv 1) (pv 4) (set_dict (Nat.lt_of_le_of_lt (Nat.add_le_add_left (by decide) _) hr.units))))))
      (pss_one (ps_if (PW.pt (pw_and (pt_cmpR op_in_seq (pe_ix ix_tup (pv 3) pe_int (fun _ _ => rfl)) (pe_glob (v := .ref aLW) (by rfl) g_LAST_WORDS rfl) rfl) (pw_and1 (pt_cmpR op_lt (pe_op op_add (pv 2) pe_int) (pe_callB call_len_seq (by rfl) B.len PySem.boot_len (pa_cons (pe_fld (pv 0) rfl) pa_nil)) (nomark _))))) (pss_one (ps_asg pe_bl (pg_sub (pv 1) (pe_op op_add (pv 2) pe_int) (set_dict (Nat.lt_of_le_of_lt (Nat.add_le_add_left (by decide) _) hr.units))))) pss_nil))))
      (pss_one (ps_ret (pe_callB cr_sortedI (by rfl) B.sorted (by decide +kernel) (pa_cons (pe_callTy (call_listD rfl) (by rfl) B.list (by decide +kernel) (pa_cons (pv 1) pa_nil)) pa_nil))))))), ?_⟩
    obtain ⟨dx, fs, hs, qr, qh, qf, yr, yh, yf, l1, l2, l3, l4, l5, h1, h2, h3, h4, h5, h6⟩ := id hC
    have o9 := ok.r9
    have ohl := ok.hl
    have lenh := h4.len
    have lenr := h2.len
    refine q_when (b := false) (et_is (et_or (a := false) (b := false) (et_is (et_not (et_test (ev_isC (ev_var rfl) hs ci.i ci.me))) rfl) fun _ => et_is (et_not (et_test (ev_call (ea_cons (ev_var rfl) ea_nil) fun H1 e Q' q' E' => ⟨a, x, C, rfl, hC.ex e, ok, fun z => ?_, q'⟩))) rfl) rfl) (fun e => by cases e) fun _ H1 x1 => ?_
    · cases u : H a with
      | none => exact hal u
      | some o => rw [e _ _ u] at z; cases z
    -- the handlers' goals
    have fh : Ev (tFld K (tVar 0) "handlers") [some (.ref x), none, none, none, none, none] H1 (.ref qh) := ev_fld (ev_var rfl) (x1 _ _ hs) ck.c (ck.no _ (by decide)) l4
    refine q_asgAny (dc_goT fh (st_of (x1 _ _ h3)) fun H2 x2 Dl hDl => ?_)
    have x12 := x1.trans x2
    have nx : ∀ {b : Addr} {o : HO}, H2 b = some o → b ≠ Dl := fun hb => ne_of_none hb hDl
    refine dc_tup (xs := yh) (fun n G => Ex H2 G ∧ ∃ kvs : List (Key × V), G Dl = some (.dK kvs) ∧ kvs.length ≤ n ∧ IntD kvs fun k => ∃ h ∈ C.hs.take n, k = (h.t : Nat)) ⟨Ex.new hDl, [], upd_same, Nat.le_refl _, IntD.nil.congr fun k => by simp⟩ (fun i G _ p => st_of ((x12.trans p.1) _ _ h3)) (fun i y G hy p => ?_) fun G p => ?_
    · obtain ⟨e, kvs, k1, k2, k3⟩ := p
      obtain ⟨h, hh, t, rfl, ht⟩ := h4.get hy
      have li := (List.getElem?_eq_some_iff.mp hy).1
      refine ⟨rfl, ?_⟩
      show tOp (rIxT K) (tVar 5) (tC (.int 2)) _ G _
      refine ev_ix0 (v := .int (h.t : Nat)) rfl ((x12.trans e) _ _ ht) rfl G (Ex.refl G) _ fun G1 e1 => ?_
      refine ⟨kvs, Sum.inl (h.t : Int), rfl, e1 _ _ k1, sz_lt (by omega), (e.trans e1).mut hDl, _, upd_same, ?_, (k3.put (h.t : Int) (.bl true)).congr fun k => ?_⟩
      · have := length_putK kvs (Sum.inl (h.t : Int) : Key) (V.bl true)
        omega
      · rw [List.take_succ, hh]
        constructor
        · rintro (⟨g, hg, e⟩ | e)
          · exact ⟨g, List.mem_append_left _ hg, e⟩
          · exact ⟨h, List.mem_append_right _ (by simp), e⟩
        · rintro ⟨g, hg, e⟩
          rcases List.mem_append.mp hg with hg | hg
          · exact .inl ⟨g, hg, e⟩
          · obtain rfl : g = h := by simpa using hg
            exact .inr e
    obtain ⟨e2, kvs0, k1, k2, k3⟩ := p
    have x13 := x12.trans e2
    have D0 : Exa Dl H2 G := Exa.of e2
    have hs2 := x12 _ _ hs
    -- the rows
    have rows : ∀ {G' : Hp} {v2 v3 v4 v5 : Option V}, Exa Dl H2 G' → Ev (tFld K (tVar 0) "rows") [some (.ref x), some (.ref Dl), v2, v3, v4, v5] G' (.ref qr) := fun e => ev_fld (ev_var rfl) (e _ _ (nx hs2) hs2) ck.c (ck.no _ (by decide)) l3
    have row2 := x12 _ _ h1
    refine q_forEn (rows D0) (st_of (D0 _ _ (nx row2) row2)) (fun i σ' G' => Exa Dl H2 G' ∧ (∃ kvs : List (Key × V), G' Dl = some (.dK kvs) ∧ kvs.length ≤ C.hs.length + 12 * i ∧ IntD kvs (NeedR C i)) ∧ ∃ v2 v3 v4, σ' = [some (.ref x), some (.ref Dl), v2, v3, v4, none]) (fun G1 e => ⟨D0.trans (Exa.of e), ⟨kvs0, e _ _ k1, by omega, k3.congr fun k => ?_⟩, none, none, none, rfl⟩) (fun i σ' G' p => st_of (p.1 _ _ (nx row2) row2)) (fun i y σ' G' G2 hy p xG => ?_) (fun σ' G' p => ?_)
    · rw [List.take_of_length_le (by omega)]
      constructor
      · exact .inl
      · rintro (h | ⟨j, r, hj, _⟩)
        · exact h
        · exact absurd hj (Nat.not_lt_zero _)
    · obtain ⟨D1, ⟨kvs, k1, k2, k3⟩, v2, v3, v4, rfl⟩ := p
      have D2 := D1.trans (Exa.of xG)
      obtain ⟨r, hr', hT⟩ := h2.get hy
      have li := (List.getElem?_eq_some_iff.mp hy).1
      have hm := ok.rs r (List.mem_of_getElem? hr')
      have g11 := goals11 hm
      have T2 : ∀ {G3 : Hp}, Exa Dl H2 G3 → InsT a G3 y r := fun {G3} e => (hT.kt (Kt.of x12)).kt fun b xs k => e b _ (nx k) k
      refine q_forNLn (xs := r.goals.map V.int) (fun G3 e3 Q' q' => rd_call (rd_cons (rd_ev (ev_var rfl) fun G4 x4 => rd_nil ⟨a, y, r, rfl, (T2 (D2.trans (Exa.of (e3.trans x4)))).at_, hm.len, fun p G5 hp x5 h5 => q' p G5 (fresh_back x4 hp) (x4.trans x5) h5⟩)))
        (fun p j σ' G3 => Exa Dl H2 G3 ∧ p ≠ Dl ∧ G3 p = some (.lst (r.goals.map V.int)) ∧ (∃ kvs : List (Key × V), G3 Dl = some (.dK kvs) ∧ kvs.length ≤ C.hs.length + 12 * i + j ∧ IntD kvs fun k => NeedR C i k ∨ k ∈ r.goals.take j) ∧ ∃ v4, σ' = [some (.ref x), some (.ref Dl), some (.int (i : Nat)), some y, v4, none])
        (fun p G3 hp x3 h3 => ⟨D2.trans (Exa.of x3), (fun z => by rw [z, xG _ _ k1] at hp; cases hp), h3, ⟨kvs, x3 _ _ (xG _ _ k1), by omega, k3.congr fun k => by simp⟩, v4, rfl⟩)
        (fun p j σ' G3 _ p3 => sq_of p3.2.2.1) (fun p j z σ' G3 hz p3 => ?_) (fun p σ' G3 p3 => ?_)
      · obtain ⟨D3, np, h3, ⟨kvs3, m1, m2, m3⟩, v4', rfl⟩ := p3
        rw [List.getElem?_map] at hz
        obtain ⟨g, hg, rfl⟩ := Option.map_eq_some_iff.mp hz
        have lj := (List.getElem?_eq_some_iff.mp hg).1
        refine s_put rfl (ev_var rfl) m1 (by omega) fun G4 x4 => ⟨(D3.trans (Exa.of x4)).trans Exa.upd, np, by rw [upd_ne np]; exact x4 _ _ h3, ⟨_, upd_same, ?_, (m3.put g (.bl true)).congr fun k => ?_⟩, _, rfl⟩
        · have := length_putK kvs3 (Sum.inl g : Key) (V.bl true)
          omega
        · rw [List.take_succ, hg]
          simp only [Option.toList_some, List.mem_append, List.mem_singleton, or_assoc]
      · obtain ⟨D3, np, h3, ⟨kvs3, m1, m2, m3⟩, v4', rfl⟩ := p3
        rw [List.length_map] at m2 m3
        rw [List.take_length] at m3
        obtain ⟨t, ts, rfl, _, ht, hP⟩ := (T2 D3).at_
        obtain ⟨ys, rfl, _⟩ := hP.head
        have lenE : ∀ {G4 : Hp}, Exa Dl H2 G4 → Ev (tCB (rLenS K) (tCons (tFld K (tVar 0) "rows") tNil)) [some (.ref x), some (.ref Dl), some (.int (i : Nat)), some (.ref t), v4', none] G4 (.int (C.rs.length : Nat)) := fun {G4} e => ev_is (ev_lenTup (rows e) (e _ _ (nx row2) row2)) (by rw [lenr])
        have step : ∀ (b : Bool), b = (r.last && decide (i + 1 < C.rs.length)) → EvT (tAnd (tTest (tOp (rIn K false) (tOp (rIxT K) (tVar 3) (tC (.int 0))) (tC (.ref aLW)))) (tTest (tOp (rI0 fun i j => .bl (decide (i < j))) (tOp (rI0 fun i j => .int (i + j)) (tVar 2) (tC (.int 1))) (tCB (rLenS K) (tCons (tFld K (tVar 0) "rows") tNil))))) [some (.ref x), some (.ref Dl), some (.int (i : Nat)), some (.ref t), v4', none] G3 b := fun b e => by
          rw [e]
          refine et_and (et_test (ev_is (ev_op (ev_ix0 rfl ht atI_zero) ev_c (rv_isT (hLW _) rfl (flat_strs _))) (by rw [inV_strs]; rfl))) fun _ => et_test (ev_is (ev_op (ev_op (ev_var rfl) ev_c rv_I0) (lenE D3) rv_I0) ?_)
          exact congrArg V.bl (decide_eq_decide.mpr (by omega))
        refine s_when (step _ rfl) (fun e G4 x4 => ?_) fun e G4 x4 => ⟨D3.trans (Exa.of x4), ⟨kvs3, x4 _ _ m1, by omega, m3.congr fun k => ?_⟩, _, _, _, rfl⟩
        · refine s_put (k := ((i + 1 : Nat) : Int)) rfl (ev_is (ev_op (ev_var rfl) ev_c rv_I0) (congrArg V.int (by omega))) (x4 _ _ m1) (by omega) fun G5 x5 => ⟨((D3.trans (Exa.of x4)).trans (Exa.of x5)).trans Exa.upd, ⟨_, upd_same, ?_, (m3.put ((i + 1 : Nat) : Int) (.bl true)).congr fun k => ?_⟩, _, _, _, rfl⟩
          · have := length_putK kvs3 (Sum.inl ((i + 1 : Nat) : Int) : Key) (V.bl true)
            omega
          · obtain ⟨b1, b2⟩ := Bool.and_eq_true_iff.mp e
            have b3 := of_decide_eq_true b2
            constructor
            · rintro (((h | ⟨j, r', hj, z⟩) | h) | h)
              · exact .inl h
              · exact .inr ⟨j, r', by omega, z⟩
              · exact .inr ⟨i, r, by omega, hr', .inl h⟩
              · exact .inr ⟨i, r, by omega, hr', .inr ⟨b1, b3, h⟩⟩
            · rintro (h | ⟨j, r', hj, z1, z2⟩)
              · exact .inl (.inl (.inl h))
              · by_cases ji : j = i
                · subst ji
                  rw [hr'] at z1
                  obtain rfl := Option.some.inj z1
                  rcases z2 with h | ⟨_, _, h⟩
                  · exact .inl (.inr h)
                  · exact .inr h
                · exact .inl (.inl (.inr ⟨j, r', by omega, z1, z2⟩))
        · constructor
          · rintro ((h | ⟨j, r', hj, z⟩) | h)
            · exact .inl h
            · exact .inr ⟨j, r', by omega, z⟩
            · exact .inr ⟨i, r, by omega, hr', .inl h⟩
          · rintro (h | ⟨j, r', hj, z1, z2⟩)
            · exact .inl (.inl h)
            · by_cases ji : j = i
              · subst ji
                rw [hr'] at z1
                obtain rfl := Option.some.inj z1
                rcases z2 with h | ⟨c1, c2, _⟩
                · exact .inr h
                · rw [c1, decide_eq_true c2] at e
                  cases e
              · exact .inl (.inr ⟨j, r', by omega, z1, z2⟩)
    · obtain ⟨D1, ⟨kvs, k1, k2, ks, e1, nd, hm⟩, v2, v3, v4, rfl⟩ := p
      rw [lenr] at hm
      have ek : (kvs.map fun kv => kV kv.1) = ks.map V.int := by
        have := congrArg (List.map kV) e1
        rw [List.map_map, List.map_map] at this
        exact this
      refine rd_ret (rd_cb (rd_cons (rd_cb (rd_cons (rd_ev (ev_var rfl) fun G1 xg => rd_nil ⟨Dl, kvs, rfl, .inl (xg _ _ k1), fun p hp => ?_⟩)))))
      rw [ek]
      refine rd_nil ⟨p, ks, rfl, sq_of upd_same, fun ns pl hperm hle hpl => ?_⟩
      have eH : Ex H (upd G1 p (.lst (ks.map V.int))) := ((Exa.ex (fresh_back x12 hDl) x12 D1).trans xg).trans (Ex.new hp)
      exact q ns (lt_of_le_nodup ns hle (hperm.nodup_iff.mpr nd)) (fun k => by rw [hperm.mem_iff]; exact hm k) pl _ (fresh_back eH hpl) (eH.trans (Ex.new hpl)) upd_same
end
end N8

set_option maxHeartbeats 4000000
set_option autoImplicit false
namespace N8
open PySem PySem.Spec PyProof.Rows L2 Evl
open SX (S)
abbrev sLawRow : Stmt := topS 79
theorem scLawRow : FnScope ["well", "many", "goal", "other", "way", "words", "pairs", "goals", "k", "pair"] ["well", "many"] (L2.defScope sLawRow) := ⟨rfl, rfl, rfl, by decide +kernel, rfl, by decide +kernel, by decide +kernel⟩

section
variable {K : PySem.W.Frag} {σ : L2.St} {H H' : Hp} {te ta tb tl : TE} {tq tr : TA} {r : R2} {v x : V} {D : Ends} {tz tu : TS} {Q : VK}
inductive Objs (H1 H2 : Hp) : List V → List HO → Prop where
  | nil : Objs H1 H2 [] []
  | cons {q : Addr} {o : HO} {gs : List V} {os : List HO} : H1 q = none → H2 q = some o → Objs H1 H2 gs os → Objs H1 H2 (.ref q :: gs) (o :: os)
end
section
variable {K : PySem.W.Frag} {σ : L2.St} {H H' : Hp} {te ta tb tl : TE} {tq tr : TA} {r : R2} {v x : V} {D : Ends} {tz tu : TS} {Q : VK}
theorem Objs.ex {H1 H2 H3 : Hp} {gs : List V} {os : List HO} (h : Objs H1 H2 gs os) (e : Ex H2 H3) : Objs H1 H3 gs os := by
  induction h with
  | nil => exact .nil
  | cons a b _ ih => exact .cons a (e _ _ b) ih
end
section
variable {K : PySem.W.Frag} {σ : L2.St} {H H' : Hp} {te ta tb tl : TE} {tq tr : TA} {r : R2} {v x : V} {D : Ends} {tz tu : TS} {Q : VK}
theorem Objs.back {H0 H1 H2 : Hp} {gs : List V} {os : List HO} (h : Objs H1 H2 gs os) (e : Ex H0 H1) : Objs H0 H2 gs os := by
  induction h with
  | nil => exact .nil
  | cons a b _ ih => exact .cons (fresh_back e a) b ih
end
section
variable {K : PySem.W.Frag} {σ : L2.St} {H H' : Hp} {te ta tb tl : TE} {tq tr : TA} {r : R2} {v x : V} {D : Ends} {tz tu : TS} {Q : VK}
theorem Objs.len {H1 H2 : Hp} {gs : List V} {os : List HO} (h : Objs H1 H2 gs os) : gs.length = os.length := by
  induction h with
  | nil => rfl
  | cons _ _ _ ih => exact congrArg Nat.succ ih
end
section
variable {K : PySem.W.Frag} {σ : L2.St} {H H' : Hp} {te ta tb tl : TE} {tq tr : TA} {r : R2} {v x : V} {D : Ends} {tz tu : TS} {Q : VK}
theorem Objs.get {H1 H2 : Hp} {gs : List V} {os : List HO} (h : Objs H1 H2 gs os) {v : V} (hv : v ∈ gs) : ∃ q, v = .ref q ∧ H1 q = none ∧ ∃ o ∈ os, H2 q = some o := by
  induction h with
  | nil => cases hv
  | cons a b _ ih =>
    rcases List.mem_cons.mp hv with rfl | hv
    · exact ⟨_, rfl, a, _, List.mem_cons_self, b⟩
    · obtain ⟨q, e, n, o, ho, hq⟩ := ih hv
      exact ⟨q, e, n, o, List.mem_cons_of_mem _ ho, hq⟩
end
section
variable {K : PySem.W.Frag} {σ : L2.St} {H H' : Hp} {te ta tb tl : TE} {tq tr : TA} {r : R2} {v x : V} {D : Ends} {tz tu : TS} {Q : VK}
def EvOs (tq : TA) (σ : L2.St) (os : List HO) : Prop := ∀ H1, ∀ Q : List V → Hp → Prop, (∀ gs H2, Ex H1 H2 → Objs H1 H2 gs os → Q gs H2) → tq σ H1 Q
end
section
variable {K : PySem.W.Frag} {σ : L2.St} {H H' : Hp} {te ta tb tl : TE} {tq tr : TA} {r : R2} {v x : V} {D : Ends} {tz tu : TS} {Q : VK}
theorem eo_nil : EvOs tNil σ [] := fun H1 Q q => q [] H1 (Ex.refl H1) .nil
end
section
variable {K : PySem.W.Frag} {σ : L2.St} {H H' : Hp} {te ta tb tl : TE} {tq tr : TA} {r : R2} {v x : V} {D : Ends} {tz tu : TS} {Q : VK}
theorem eo_L {xs : List V} {os : List HO} (h : ∀ H, EvL te σ H xs) (hr : EvOs tr σ os) : EvOs (tCons te tr) σ (.lst xs :: os) := fun H1 Q q => h H1 H1 (Ex.refl H1) _ fun p H2 hp e2 h2 => hr H2 _ fun gs H3 e3 h3 => q _ H3 (e2.trans e3) (.cons hp (e3 _ _ h2) (h3.back e2))
end
section
variable {K : PySem.W.Frag} {σ : L2.St} {H H' : Hp} {te ta tb tl : TE} {tq tr : TA} {r : R2} {v x : V} {D : Ends} {tz tu : TS} {Q : VK}
theorem eo_U {xs : List V} {os : List HO} (h : ∀ H, EvU te σ H xs) (hr : EvOs tr σ os) : EvOs (tCons te tr) σ (.tup xs :: os) := fun H1 Q q => h H1 H1 (Ex.refl H1) _ fun p H2 hp e2 h2 => hr H2 _ fun gs H3 e3 h3 => q _ H3 (e2.trans e3) (.cons hp (e3 _ _ h2) (h3.back e2))
end
section
variable {K : PySem.W.Frag} {σ : L2.St} {H H' : Hp} {te ta tb tl : TE} {tq tr : TA} {r : R2} {v x : V} {D : Ends} {tz tu : TS} {Q : VK}
theorem rd_objs {os : List HO} (h : EvOs tq σ os) (hl : os.length ≤ 1000) (k : ∀ p gs H1, H p = none → Ex H H1 → H1 p = some (.lst gs) → Objs H H1 gs os → Q (.ref p) H1) : tLst tq σ H Q :=
  h H _ fun gs H1 e1 h1 => ⟨sz_of (by rw [h1.len]; omega), fun p hp => k p gs _ (fresh_back e1 hp) (e1.trans (Ex.new hp)) upd_same (h1.ex (Ex.new hp))⟩
end
section
variable {K : PySem.W.Frag} {σ : L2.St} {H H' : Hp} {te ta tb tl : TE} {tq tr : TA} {r : R2} {v x : V} {D : Ends} {tz tu : TS} {Q : VK}
theorem dr_one {a p : Addr} {xs : List V} {n : Nat} (h0 : Ev ta σ H (.ref a)) (h1 : Ev tb σ H (.ref p)) (hp : H p = some (.lst xs)) (hpa : p ≠ a) (hne : xs ≠ []) (hl : xs.length ≤ 1000) (hw : WellAt H a n) (hn : n ≤ 1000000) (k : ∀ v H', v ∈ xs → Exa a H H' → WellAt H' a (n + 1) → Q v H') :
    tCall spOne [] L2.E0 (tCons ta (tCons tb tNil)) σ H Q :=
  ea_cons h0 (ea_cons h1 ea_nil) H (Ex.refl H) _ fun H1 e1 => ⟨a, p, xs, n, rfl, e1 _ _ hp, hpa, hne, hl, hw.ex e1, hn, fun v H' hv xa hw' => k v H' hv ((Exa.of e1).trans xa) hw'⟩
end
section
variable {K : PySem.W.Frag} {σ : L2.St} {H H' : Hp} {te ta tb tl : TE} {tq tr : TA} {r : R2} {v x : V} {D : Ends} {tz tu : TS} {Q : VK}
theorem dr_oneL {a : Addr} {xs : List V} {n : Nat} (h0 : Ev ta σ H (.ref a)) (h1 : EvL tb σ H xs) (hne : xs ≠ []) (hl : xs.length ≤ 1000) (hw : WellAt H a n) (hn : n ≤ 1000000) (k : ∀ v H', v ∈ xs → Exa a H H' → WellAt H' a (n + 1) → Q v H') :
    tCall spOne [] L2.E0 (tCons ta (tCons tb tNil)) σ H Q :=
  rd_call (rd_cons (rd_ev h0 fun H1 e1 => rd_cons (h1 H1 e1 _ fun p H2 hp e2 h2 => rd_nil ⟨a, p, xs, n, rfl, h2, well_ne (hw.ex e1) hp, hne, hl, (hw.ex e1).ex e2, hn, fun v H' hv xa hw' => k v H' hv ((Exa.of (e1.trans e2)).trans xa) hw'⟩)))
end
section
variable {K : PySem.W.Frag} {σ : L2.St} {H H' : Hp} {te ta tb tl : TE} {tq tr : TA} {r : R2} {v x : V} {D : Ends} {tz tu : TS} {Q : VK}
theorem dr_oneO {a : Addr} {os : List HO} {n : Nat} (h0 : Ev ta σ H (.ref a)) (h1 : EvOs tq σ os) (hne : os ≠ []) (hl : os.length ≤ 1000) (hw : WellAt H a n) (hn : n ≤ 1000000) (k : ∀ q o H', o ∈ os → Exa a H H' → WellAt H' a (n + 1) → H' q = some o → q ≠ a → Q (.ref q) H') :
    tCall spOne [] L2.E0 (tCons ta (tCons (tLst tq) tNil)) σ H Q :=
  rd_call (rd_cons (rd_ev h0 fun H1 e1 => rd_cons (rd_objs h1 hl fun p gs H2 hp e2 h2 ho => rd_nil ⟨a, p, gs, n, rfl, h2, well_ne (hw.ex e1) hp, (fun z => by
      subst z
      have := ho.len
      cases os with
      | nil => exact hne rfl
      | cons => cases this), by rw [ho.len]; exact hl, (hw.ex e1).ex e2, hn, fun v H' hv xa hw' => by
    obtain ⟨q, rfl, hq, o, hm, hqo⟩ := ho.get hv
    have nqa := well_ne (hw.ex e1) hq
    exact k q o H' hm ((Exa.of (e1.trans e2)).trans xa) hw' (xa _ _ nqa hqo) nqa⟩)))
end

section
variable {K : PySem.W.Frag} {σ : L2.St} {H H' : Hp} {te ta tb tl : TE} {tq tr : TA} {r : R2} {v x : V} {D : Ends} {tz tu : TS} {Q : VK}
theorem rd_asg {g : TG} (h : te σ H fun v H1 => g v σ H1 D.nx) : tAsg te g D σ H := h
/-- for k in range(a drawn number) -/
theorem s_forDraw {a : Addr} {m : Int} {n j : Nat} (ha : Ev ta σ H (.ref a)) (hm : Ev tb σ H (.int m)) (h0 : 0 < m) (h1 : m ≤ 1000) (hw : WellAt H a n) (hn : n ≤ 1000000) (Pv : Nat → L2.St → Hp → Prop)
    (hb : ∀ H', Exa a H H' → WellAt H' a (n + 1) → Pv 0 σ H') (hs : ∀ (i : Nat) σ' H', (i : Int) < m → Pv i σ' H' → tu { D with nx := Pv (i + 1), ct := Pv (i + 1), bk := D.nx } (σ'.set j (some (.int (i : Nat)))) H') (hd : ∀ (d : Nat) σ' H', (d : Int) < m → Pv d σ' H' → D.nx σ' H') :
    tFor (iRng1 (tCons (tCall spDraw [] L2.E0 (tCons ta (tCons tb tNil))) tNil)) (gName j) tu D σ H :=
  dr_draw ha hm h0 (by omega) hw hn fun d G d0 d1 xa w => ⟨d, rfl, by omega, by omega, for_range (lo := 0) (n := d.toNat) Pv (hb G xa w) (fun i σ' G' hi p => by
    show tu { D with nx := Pv (i + 1), ct := Pv (i + 1), bk := D.nx } (σ'.set j (some (.int ((0 : Int) + (i : Int))))) G'
    rw [Int.zero_add]
    exact hs i σ' G' (by omega) p) fun σ' G' p => hd d.toNat σ' G' (by omega) p⟩
theorem All2.filt {α : Type} {R : V → α → Prop} {vs : List V} {ms : List α} (h : All2 R vs ms) (f : α → Bool) (d : α) : All2 R (given vs.length (fun i => f (ms.getD i d)) fun i => vs.getD i .non) (ms.filter f) := by
  have key : ∀ i, i ≤ vs.length → All2 R (given i (fun i => f (ms.getD i d)) fun i => vs.getD i .non) ((ms.take i).filter f) := by
    intro i
    induction i with
    | zero => exact fun _ => .nil
    | succ i ih =>
      intro hi
      have hv : vs[i]? = some (vs.getD i .non) := by rw [List.getD_eq_getElem?_getD, List.getElem?_eq_getElem (by omega)]; rfl
      obtain ⟨m, hm, k⟩ := h.get hv
      have em : ms.getD i d = m := by rw [List.getD_eq_getElem?_getD, hm]; rfl
      rw [List.take_succ, hm, List.filter_append]
      cases e : f m with
      | true =>
        rw [given_yes (by show f (ms.getD i d) = true; rw [em]; exact e)]
        have : (Option.toList (some m)).filter f = [m] := by simp [e]
        rw [this]
        exact (ih (by omega)).app k
      | false =>
        rw [given_no (by show f (ms.getD i d) = false; rw [em]; exact e)]
        have : (Option.toList (some m)).filter f = [] := by simp [e]
        rw [this, List.append_nil]
        exact ih (by omega)
  have := key vs.length (Nat.le_refl _)
  rwa [h.len, List.take_length, ← h.len] at this
end
def spLRow : Sp := fun vs H Q _ => ∃ (a : Addr) (many n : Nat), vs = [.ref a, .int (many : Nat)] ∧ 1 ≤ many ∧ many ≤ 1000 ∧ WellAt H a n ∧ n ≤ 900000 ∧
  ∀ t v gl r H', Exa a H H' → WellAt H' a (n + 8) → H t = none → H' t = some (.tup [v, .ref gl]) → gl ≠ a → H' gl = some (.lst (r.goals.map V.int)) → H gl = none → (∀ b, H b ≠ none → InsAt b H' v r) → InsOk many r → Q (.ref t) H'
/-- a pair that is new since H0 -/
def PrF (H0 H : Hp) (v : V) (q : Int × Nat) : Prop := ∃ t, v = .ref t ∧ H0 t = none ∧ H t = some (.tup [.int q.1, .int (q.2 : Nat)])
theorem PrF.kt {H0 H H' : Hp} {v : V} {q : Int × Nat} (e : Kt H H') (h : PrF H0 H v q) : PrF H0 H' v q := by
  obtain ⟨t, rfl, n, ht⟩ := h
  exact ⟨t, rfl, n, e _ _ ht⟩
theorem PrF.pr {H0 H : Hp} {v : V} {q : Int × Nat} {b : Addr} (h : PrF H0 H v q) (hb : H0 b ≠ none) : PrAt b H v q := by
  obtain ⟨t, rfl, n, ht⟩ := h
  exact ⟨t, rfl, fun e => hb (e ▸ n), ht⟩
section
variable {σ : L2.St} {H H' : Hp} {te ta tb : TE} {tq : TA} {Q : VK}
/-- one of a new list of new objects -/
theorem dr_oneF {a : Addr} {os : List HO} {n : Nat} (h0 : Ev ta σ H (.ref a)) (h1 : EvOs tq σ os) (hne : os ≠ []) (hl : os.length ≤ 1000) (hw : WellAt H a n) (hn : n ≤ 1000000) (k : ∀ q o H', o ∈ os → Exa a H H' → WellAt H' a (n + 1) → H' q = some o → H q = none → Q (.ref q) H') :
    tCall spOne [] L2.E0 (tCons ta (tCons (tLst tq) tNil)) σ H Q :=
  rd_call (rd_cons (rd_ev h0 fun H1 e1 => rd_cons (rd_objs h1 hl fun p gs H2 hp e2 h2 ho => rd_nil ⟨a, p, gs, n, rfl, h2, well_ne (hw.ex e1) hp, (fun z => hne (by
    have := ho.len
    rw [z] at this
    exact List.eq_nil_of_length_eq_zero this.symm)), by rw [ho.len]; exact hl, (hw.ex e1).ex e2, hn, fun v H' hv xa hw' => by
    obtain ⟨q, rfl, hq, o, hm, hqo⟩ := ho.get hv
    exact k q o H' hm ((Exa.of (e1.trans e2)).trans xa) hw' (xa _ _ (well_ne (hw.ex e1) hq) hqo) (fresh_back e1 hq)⟩)))
end
theorem sq_tup {a : Addr} {H H' : Hp} {n : Nat} (w : WellAt H a n) (e : Exa a H H') : Kt H H' := by
  obtain ⟨x, c, h, _⟩ := w
  exact Kt.exa h e
theorem Exa.none {a p : Addr} {H H' : Hp} {n : Nat} (x : Exa a H H') (w : WellAt H' a n) (h : H' p = none) : H p = none := by
  cases e : H p with
  | none => rfl
  | some o =>
    have : p ≠ a := well_ne w h
    rw [x _ _ this e] at h
    cases h
section
variable {P : Program} {w : World} {K : PySem.W.Frag} {mg : Str → Option Value} {base : Heap}
set_option maxHeartbeats 16000000 in
theorem ok_lawRow {f : Addr} {fd : FuncData} (F : FnP K "_law_row" sLawRow f fd) (B : Bt mg) (c_law_draw : Cl P w K mg base L2.CX0 1 "_law_draw" ["well", "many"] spDraw) (c_law_one : Cl P w K mg base L2.CX0 2 "_law_one" ["well", "some"] spOne) :
    FnOk P w K mg base L2.CX0 3 f fd ["well", "many"] spLRow := by
  refine F.ok scLawRow (fun vs H Q E h => ?_) (fun cdv A outer s H vs Q E hr h => ?_)
  · obtain ⟨a, many, n, rfl, _⟩ := h
    rfl
  · obtain ⟨a, many, n, rfl, m1, m9, hw, hn, q⟩ := h
    refine ⟨_, PSs.nox (pss_cons (ps_asg (pe_tup (pa_cons (pe_cl c_law_draw hr (by decide) (by rfl) (pa_cons (pv 0) (pa_cons (pv 1) pa_nil))) (pa_cons (pe_cl c_law_draw hr (by decide) (by rfl) (pa_cons (pv 0) (pa_cons (pv 1) pa_nil))) pa_nil))) (pg_tup rfl (pgs_cons (pg_name (i := 2) scLawRow.nd rfl (.inl rfl)) (pgs_cons (pg_name (i := 3) scLawRow.nd rfl (.inr rfl)) pgs_nil))))
      (pss_cons (ps_set (i := 4) scLawRow.nd rfl (.inl rfl) (pe_cl c_law_draw hr (by decide) (by rfl) (pa_cons (pv 0) (pa_cons pe_int pa_nil))))
      (pss_cons (ps_if (pt_cmpR op_lt (pv 4) pe_int (nomark _)) (pss_one (ps_ret (pe_tup (pa_cons (pe_tup (pa_cons (pe_cl c_law_one hr (by decide) (by rfl) (pa_cons (pv 0) (pa_cons (pe_lst (pa_cons pe_str (pa_cons pe_str (pa_cons pe_str (pa_cons pe_str (pa_cons pe_str (pa_cons pe_str (pa_cons pe_str (pa_cons pe_str pa_nil))))))))) pa_nil))) pa_nil)) (pa_cons (pe_lst pa_nil) pa_nil))))) pss_nil)
      (pss_cons (ps_if (pt_cmpR op_lt (pv 4) pe_int (nomark _)) (pss_cons (ps_set (i := 5) scLawRow.nd rfl (.inl rfl) (pe_lst (pa_cons pe_str (pa_cons pe_str (pa_cons pe_str (pa_cons pe_str (pa_cons pe_str (pa_cons pe_str (pa_cons pe_str (pa_cons pe_str (pa_cons pe_str pa_nil)))))))))))
      (pss_one (ps_ret (pe_tup (pa_cons (pe_tup (pa_cons (pe_cl c_law_one hr (by decide) (by rfl) (pa_cons (pv 0) (pa_cons (pv 5) pa_nil))) (pa_cons (pv 2) pa_nil))) (pa_cons (pe_lst (pa_cons (pv 2) pa_nil)) pa_nil)))))) pss_nil)
      (pss_cons (ps_if (pt_cmpR op_eq (pv 4) pe_int (nomark _)) (pss_cons (ps_par (i := 6) (j := 7) rfl scLawRow.nd rfl rfl (by decide) rfl rfl (pa_cons (pe_lst pa_nil) (pa_cons (pe_lst pa_nil) pa_nil)) rfl)
      (pss_cons (ps_for PassesOwn.never rfl (pi_range1 (by rfl) B.range (pa_cons (pe_cl c_law_draw hr (by decide) (by rfl) (pa_cons (pv 0) (pa_cons pe_int pa_nil))) pa_nil)) (pg_name (i := 8) scLawRow.nd rfl (.inl rfl)) (pss_cons (ps_expr (pe_bm PySem.F.plainAttrs_list PySem.F.slot_list_append PySem.F.type_list_append mt_append (pv 7) (pa_cons (pe_cl c_law_draw hr (by decide) (by rfl) (pa_cons (pv 0) (pa_cons (pv 1) pa_nil))) pa_nil)))
      (pss_one (ps_expr (pe_bm PySem.F.plainAttrs_list PySem.F.slot_list_append PySem.F.type_list_append mt_append (pv 6) (pa_cons (pe_tup (pa_cons (pe_op op_sub (pe_op op_mulW pe_int (pv 8)) pe_int) (pa_cons (pe_ix ix_list (pv 7) (pe_un un_neg pe_int) (fun _ _ => rfl)) pa_nil))) pa_nil))))))
      (pss_cons (ps_setLc (i := 6) (own := [("pair", 9)]) (g := gName 9) rfl scLawRow.nd rfl rfl (sw_true rfl rfl rfl (by decide +kernel)) (pi_list (pv 6)) (blkOk_by (N := ["well", "many", "goal", "other", "way", "words", "pairs", "goals", "k", "pair"]) (sc := L2.defScope sLawRow) (by decide +kernel)) (fun _ _ _ _ _ => pg_name (i := 9) scLawRow.nd rfl (Or.inl rfl)) (fun _ _ _ _ _ => (pts_one (pt_cmpR op_ne (pe_ix (r := rIxT K) ix_tup (pv 9) pe_int (fun _ _ => rfl)) (pv 3) (nomark _)))) (fun _ _ _ _ _ => (pv 9)))
      (pss_one (ps_ret (pe_tup (pa_cons (pe_tup (pa_cons pe_str (pa_cons (pe_cl c_law_one hr (by decide) (by rfl) (pa_cons (pv 0) (pa_cons (pe_lst (pa_cons (pv 6) (pa_cons (pe_callTy call_tuple_of (by rfl) B.tuple (by decide +kernel) (pa_cons (pv 6) pa_nil)) pa_nil))) pa_nil))) (pa_cons (pv 3) pa_nil)))) (pa_cons (pe_op op_cat (pe_lc (own := [("pair", 9)]) (g := gName 9) (tt := tYes) rfl scLawRow.nd (pi_list (pv 6)) (blkOk_by (N := ["well", "many", "goal", "other", "way", "words", "pairs", "goals", "k", "pair"]) (sc := L2.defScope sLawRow) (by decide +kernel)) (fun _ _ _ _ _ => pg_name (i := 9) scLawRow.nd rfl (Or.inl rfl)) (fun _ _ _ _ _ => pts_nil) (fun _ _ _ _ _ => (pe_ix (r := rIxT K) ix_tup (pv 9) pe_int (fun _ _ => rfl)))) (pe_lst (pa_cons (pv 3) pa_nil))) pa_nil)))))))) pss_nil)
      (pss_one (ps_ret (pe_tup (pa_cons (pe_cl c_law_one hr (by decide) (by rfl) (pa_cons (pv 0) (pa_cons (pe_lst (pa_cons (pe_tup (pa_cons pe_str (pa_cons (pv 2) pa_nil))) (pa_cons (pe_tup (pa_cons pe_str (pa_cons pe_int pa_nil))) (pa_cons (pe_tup (pa_cons pe_str (pa_cons pe_str (pa_cons pe_str (pa_cons pe_str pa_nil))))) (pa_cons (pe_tup (pa_cons pe_str (pa_cons pe_str pa_nil))) pa_nil))))) pa_nil))) (pa_cons (pe_lst pa_nil) pa_nil)))))))))), ?_⟩
    -- the ends
    have nb : ∀ {p b : Addr}, H p = none → H b ≠ none → p ≠ b := fun h k e => k (e ▸ h)
    have fin : ∀ (v : V) (gl : Addr) (G : Hp) (r : Ins), Exa a H G → WellAt G a (n + 8) → (∀ b, H b ≠ none → InsAt b G v r) → InsOk many r → G gl = some (.lst (r.goals.map V.int)) → gl ≠ a → H gl = none → ∀ p, G p = none → Q (.ref p) (upd G p (.tup [v, .ref gl])) := fun v gl G r xa w hI ok hg ng hgl p hp =>
      q p v gl r _ (xa.trans (Exa.of (Ex.new hp))) (w.ex (Ex.new hp)) (xa.none w hp) upd_same ng (Ex.new hp _ _ hg) hgl (fun b hb => (hI b hb).ex (Ex.new hp)) ok
    refine rd_seq (rd_asg (rd_tup (rd_cons (dr_draw (ev_var rfl) (ev_var rfl) (by omega) (by omega) hw (by omega) fun goal H1 g0 g1 xa1 w1 => rd_cons (dr_draw (ev_var rfl) (ev_var rfl) (by omega) (by omega) w1 (by omega) fun other H2 o0 o1 xa2 w2 => rd_nil ⟨by show 2 ≤ sizeLine; decide, fun tt htt => tup2 (st_of upd_same) ?_⟩)))))
    obtain ⟨goal, rfl⟩ := Int.eq_ofNat_of_zero_le g0
    obtain ⟨other, rfl⟩ := Int.eq_ofNat_of_zero_le o0
    replace xa2 := xa2.trans (Exa.of (Ex.new (o := .tup [.int (goal : Nat), .int (other : Nat)]) htt))
    replace w2 := w2.ex (Ex.new (o := .tup [.int (goal : Nat), .int (other : Nat)]) htt)
    generalize upd H2 tt (.tup [.int (goal : Nat), .int (other : Nat)]) = H2 at xa2 w2 ⊢
    refine q_asgAny (dr_draw (ev_var rfl) ev_c (by omega) (by omega) w2 (by omega) fun way H3 y0 y1 xa3 w3 => ?_)
    have xa13 := (xa1.trans xa2).trans xa3
    refine q_when (b := decide (way < 4)) (et_test (ev_op (ev_var rfl) ev_c rv_I0)) (fun _ H4 x4 => ?_) (fun _ H4 x4 => ?_)
    · have xa14 := xa13.trans (Exa.of x4)
      refine rd_ret (rd_tup (rd_cons (rd_tup (rd_cons (dr_oneL (xs := ones.map V.str) (ev_var rfl) (el_lst (ea_cons ev_c (ea_cons ev_c (ea_cons ev_c (ea_cons ev_c (ea_cons ev_c (ea_cons ev_c (ea_cons ev_c (ea_cons ev_c ea_nil)))))))) (by decide)) (by decide) (by decide) (w3.ex x4) (by omega) fun v H5 hv xa5 w5 => rd_nil ⟨by show 1 ≤ sizeLine; decide, fun t1 ht1 => ?_⟩)))))
      obtain ⟨z, hz, rfl⟩ := List.mem_map.mp hv
      have w6 := w5.ex (Ex.new (o := .tup [V.str z]) ht1)
      have n1 := (xa14.trans xa5).none w5 ht1
      refine rd_cons (rd_lst (rd_nil ⟨by decide, fun gl hgl => rd_nil ⟨by show 2 ≤ sizeLine; decide, fin _ gl _ (.wd z) ((xa14.trans xa5).trans (Exa.of ((Ex.new ht1).trans (Ex.new hgl)))) ((w6.ex (Ex.new hgl)).le (by omega)) (fun b hb => ⟨t1, _, rfl, nb n1 hb, (Ex.new hgl) _ _ upd_same, rfl, hz⟩) trivial upd_same (well_ne w6 hgl) ((xa14.trans xa5).none w5 (fresh_back (Ex.new ht1) hgl))⟩⟩))
    have xa14 := xa13.trans (Exa.of x4)
    have w4 := w3.ex x4
    refine q_when (b := decide (way < 7)) (et_test (ev_op (ev_var rfl) ev_c rv_I0)) (fun _ H5 x5 => ?_) (fun _ H5 x5 => ?_)
    · have xa15 := xa14.trans (Exa.of x5)
      refine q_asgL (xs := jmps.map V.str) (el_lst (ea_cons ev_c (ea_cons ev_c (ea_cons ev_c (ea_cons ev_c (ea_cons ev_c (ea_cons ev_c (ea_cons ev_c (ea_cons ev_c (ea_cons ev_c ea_nil))))))))) (by decide)) fun p6 H6 hp6 x6 h6 => ?_
      have w6 := (w4.ex x5).ex x6
      refine rd_ret (rd_tup (rd_cons (rd_tup (rd_cons (dr_one (xs := jmps.map V.str) (ev_var rfl) (ev_var rfl) h6 (well_ne (w4.ex x5) hp6) (by decide) (by decide) w6 (by omega) fun v H7 hv xa7 w7 => rd_cons (rd_ev (ev_var rfl) fun H8 x8 => rd_nil ⟨by show 2 ≤ sizeLine; decide, fun t1 ht1 => ?_⟩))))))
      obtain ⟨z, hz, rfl⟩ := List.mem_map.mp hv
      have w8 := w7.ex x8
      have xa18 := ((xa15.trans (Exa.of x6)).trans xa7).trans (Exa.of x8)
      have w9 := w8.ex (Ex.new (o := .tup [V.str z, V.int (goal : Nat)]) ht1)
      have n1 := xa18.none w8 ht1
      refine rd_cons (rd_lst (rd_cons (rd_ev (ev_var rfl) fun H9 x9 => rd_nil ⟨by show 1 ≤ sizeLine; decide, fun gl hgl => rd_nil ⟨by show 2 ≤ sizeLine; decide, fin _ gl _ (.jp z goal) (xa18.trans (Exa.of (((Ex.new ht1).trans x9).trans (Ex.new hgl)))) (((w9.ex x9).ex (Ex.new hgl)).le (by omega)) (fun b hb => ⟨t1, _, rfl, nb n1 hb, (x9.trans (Ex.new hgl)) _ _ upd_same, rfl, hz⟩) (show goal < many by omega) upd_same (well_ne (w9.ex x9) hgl) (xa18.none w8 (fresh_back ((Ex.new ht1).trans x9) hgl))⟩⟩)))
    have xa15 := xa14.trans (Exa.of x5)
    have w5 := w4.ex x5
    refine q_when (b := decide (way = 7)) (et_test (ev_op (ev_var rfl) ev_c rv_eqI)) (fun _ H6 x6 => ?_) (fun _ H6 x6 => ?_)
    · have xa16 := xa15.trans (Exa.of x6)
      have w6 := w5.ex x6
      refine rd_seq (show tPar _ _ _ _ _ _ from rd_cons (rd_lst (rd_nil ⟨by decide, fun pp hpp => rd_cons (rd_lst (rd_nil ⟨by decide, fun pg hpg => rd_nil ⟨_, _, rfl, ?_⟩⟩))⟩)))
      have e7 : Ex H6 (upd (upd H6 pp (.lst [])) pg (.lst [])) := (Ex.new hpp).trans (Ex.new hpg)
      have npg : pp ≠ pg := fun z => by rw [← z, upd_same] at hpg; cases hpg
      have h7p : (upd (upd H6 pp (.lst [])) pg (.lst [])) pp = some (.lst []) := by rw [upd_ne npg]; exact upd_same
      have h7g : (upd (upd H6 pp (.lst [])) pg (.lst [])) pg = some (.lst []) := upd_same
      have npa := well_ne w6 hpp
      have nga := well_ne (w6.ex (Ex.new (o := .lst []) hpp)) hpg
      have fpp : H pp = none := xa16.none w6 hpp
      have fpg : H pg = none := xa16.none w6 (fresh_back (Ex.new (o := .lst []) hpp) hpg)
      have xa17 := xa16.trans (Exa.of e7)
      have w7 := w6.ex e7
      generalize upd (upd H6 pp (.lst [])) pg (.lst []) = H7 at h7p h7g xa17 w7 ⊢
      refine rd_seq (s_forDraw (ev_var rfl) ev_c (by decide) (by decide) w7 (by omega) (fun i σ' G => ∃ (ps : List (Int × Nat)) (vs : List V) (v8 : Option V), σ' = [some (.ref a), some (.int (many : Nat)), some (.int (goal : Nat)), some (.int (other : Nat)), some (.int way), none, some (.ref pp), some (.ref pg), v8, none] ∧ ps.length = i ∧ G pp = some (.lst vs) ∧ G pg = some (.lst (ps.map fun q => V.int (q.2 : Nat))) ∧ All2 (PrF H G) vs ps ∧
        (∀ q ∈ ps, -9 ≤ q.1 ∧ q.1 < 7 * (i : Int) - 9 ∧ q.2 < many) ∧ (ps.Pairwise fun x y => x.1 < y.1) ∧ Exa a H G ∧ WellAt G a (n + 4 + i)) (fun H8 xa8 w8 => ⟨[], [], none, rfl, rfl, xa8 _ _ npa h7p, xa8 _ _ nga h7g, .nil, fun q hq => (by cases hq), .nil, xa17.trans xa8, w8⟩) (fun i σ' G hi p => ?_) fun dd σ' G hd p => ?_)
      · obtain ⟨ps, vs, v8, rfl, hl, hp1, hg1, ha1, hb1, as1, xG, wG⟩ := p
        refine rd_seq (show tDrop _ _ _ _ from ⟨.ref pg, rfl, Or.inl ⟨rfl, _, sq_of hg1⟩, rd_cons (dr_draw (ev_var rfl) (ev_var rfl) (by omega) (by omega) wG (by omega) fun d G2 d0 d1 xa8 w8 => rd_nil ⟨pg, _, .int d, rfl, rfl, xa8 _ _ nga hg1, sz_lt (by rw [List.length_map]; omega), ?_⟩)⟩)
        obtain ⟨d, rfl⟩ := Int.eq_ofNat_of_zero_le d0
        have hg2 := xa8 _ _ nga hg1
        have hp2 := xa8 _ _ npa hp1
        have k3 : Kt G2 (upd G2 pg (.lst ((ps.map fun q => V.int (q.2 : Nat)) ++ [V.int (d : Nat)]))) := Kt.exa hg2 Exa.upd
        have hp3 : (upd G2 pg (.lst ((ps.map fun q => V.int (q.2 : Nat)) ++ [V.int (d : Nat)]))) pp = some (.lst vs) := by rw [upd_ne npg]; exact hp2
        have hg3 : (upd G2 pg (.lst ((ps.map fun q => V.int (q.2 : Nat)) ++ [V.int (d : Nat)]))) pg = some (.lst ((ps.map fun q => V.int (q.2 : Nat)) ++ [V.int (d : Nat)])) := upd_same
        have w9 : WellAt (upd G2 pg (.lst ((ps.map fun q => V.int (q.2 : Nat)) ++ [V.int (d : Nat)]))) a (n + 4 + i + 1) := by
          obtain ⟨y, c, z1, z2⟩ := w8
          exact ⟨y, c, by rw [upd_ne nga.symm]; exact z1, z2⟩
        have xa9 : Exa a H (upd G2 pg (.lst ((ps.map fun q => V.int (q.2 : Nat)) ++ [V.int (d : Nat)]))) := fun b o nb hb => by
          rw [upd_ne (ne_of_none hb fpg)]
          exact (xG.trans xa8) b o nb hb
        have ha3 := (ha1.imp fun _ _ k => k.kt (sq_tup wG xa8)).imp fun _ _ k => k.kt k3
        generalize upd G2 pg (.lst ((ps.map fun q => V.int (q.2 : Nat)) ++ [V.int (d : Nat)])) = G3 at hp3 hg3 w9 xa9 ha3 ⊢
        have lv := ha3.len
        refine s_appU (ys := [.int (7 * (i : Int) - 9), .int (d : Nat)]) hp3 (ev_var rfl) (eu_tup (ea_cons (ev_op (ev_op ev_c (ev_var rfl) (rv_mulS (by omega) (by omega))) ev_c rv_I0) (ea_cons (ev_op (ev_var rfl) (ev_un ev_c ru_neg) (rv_ixL (sq_of hg3) (atI_last _ _))) ea_nil)) (by show 2 ≤ 100000; decide)) (by omega) fun t G4 ht x4 h4 => ?_
        have k5 : Kt G4 (upd G4 pp (.lst (vs ++ [.ref t]))) := Kt.exa (x4 _ _ hp3) Exa.upd
        have ntp : t ≠ pp := fun z => by rw [z, hp3] at ht; cases ht
        refine ⟨ps ++ [(7 * (i : Int) - 9, d)], vs ++ [.ref t], _, rfl, by rw [List.length_append, hl]; rfl, upd_same, ?_, ?_, fun q hq => ?_, ?_, fun b o nb hb => ?_, ?_⟩
        · rw [upd_ne npg.symm, List.map_append]
          exact x4 _ _ hg3
        · exact ((ha3.imp fun _ _ k => k.kt (Kt.of x4)).imp fun _ _ k => k.kt k5).app ⟨t, rfl, xa9.none w9 ht, by rw [upd_ne ntp]; exact h4⟩
        · rcases List.mem_append.mp hq with hq | hq
          · have := hb1 q hq
            omega
          · obtain rfl := List.mem_singleton.mp hq
            exact ⟨by show -9 ≤ 7 * (i : Int) - 9; omega, by show 7 * (i : Int) - 9 < _; omega, by show d < many; omega⟩
        · refine List.pairwise_append.mpr ⟨as1, List.pairwise_singleton _ _, fun x hx y hy => ?_⟩
          obtain rfl := List.mem_singleton.mp hy
          exact (hb1 x hx).2.1
        · rw [upd_ne (ne_of_none hb fpp)]
          exact x4 _ _ (xa9 b o nb hb)
        · obtain ⟨y, c, z1, z2⟩ := w9
          exact ⟨y, c, by rw [upd_ne npa.symm]; exact x4 _ _ z1, z2⟩
      · obtain ⟨ps, vs, v8, rfl, hl, hp1, hg1, ha1, hb1, as1, xG, wG⟩ := p
        have lv := ha1.len
        refine q_asgL (el_lcL (fun i => (fun m : Int × Nat => decide (m.2 ≠ other)) (ps.getD i (0, 0))) (fun i => vs.getD i .non) (ev_var rfl) (sq_of hp1) (by omega) (fun _ => rfl) (fun i y G1 x1 hy => ?_) fun i y G1 x1 hy _ => ?_) fun p6 G1 hp6 x1 h6 => ?_
        · obtain ⟨m, hm, t, rfl, _, ht⟩ := ha1.get hy
          have em : ps.getD i (0, 0) = m := by rw [List.getD_eq_getElem?_getD, hm]; rfl
          refine et_test (ev_is (ev_op (ev_ix0 rfl (x1 _ _ ht) rfl) (ev_var rfl) rv_neI) ?_)
          rw [em]
          refine congrArg V.bl ?_
          by_cases e : m.2 = other
          · simp [e]
          · have e2 : ¬ ((m.2 : Nat) : Int) = (other : Nat) := by omega
            simp [e, e2]
        · exact ev_is (ev_var rfl) (by rw [List.getD_eq_getElem?_getD, hy]; rfl)
        have hf := ha1.filt (fun m : Int × Nat => decide (m.2 ≠ other)) (0, 0)
        generalize given vs.length (fun i => (fun m : Int × Nat => decide (m.2 ≠ other)) (ps.getD i (0, 0))) (fun i => vs.getD i .non) = us at h6 hf
        have okS : SwOk many (ps.filter fun m => decide (m.2 ≠ other)) other := by
          refine ⟨?_, as1.filter _, fun m hm => ?_, by omega⟩
          · have := List.length_filter_le (fun m : Int × Nat => decide (m.2 ≠ other)) ps
            omega
          · obtain ⟨h1, h2⟩ := List.mem_filter.mp hm
            have := hb1 m h1
            exact ⟨by omega, by omega, this.2.2, of_decide_eq_true h2⟩
        generalize (ps.filter fun m => decide (m.2 ≠ other)) = qs at hf okS
        have lu := hf.len
        have lq := okS.len
        have w8 := wG.ex x1
        have xa8 := xG.trans (Exa.of x1)
        have hf1 := hf.imp fun _ _ k => k.kt (Kt.of x1)
        have n6 := xG.none wG hp6
        have n6a := well_ne wG hp6
        have rest : ∀ (p : Addr) (G2 : Hp), Exa a H G2 → WellAt G2 a (n + 8) → H p = none → SqAt G2 p us → G2 p6 = some (.lst us) → All2 (PrF H G2) us qs → tCons (tVar 3) tNil [some (.ref a), some (.int (many : Nat)), some (.int (goal : Nat)), some (.int (other : Nat)), some (.int way), none, some (.ref p6), some (.ref pg), v8, none] G2 fun xs G3 => (V.str "switch" :: V.ref p :: xs).length ≤ sizeLine ∧ ∀ t1, G3 t1 = none → tCons (tOp rCat (tLc (iList K (tVar 6)) (gName 9) tYes (tOp (rIxT K) (tVar 9) (tC (.int 1))) [9]) (tLst (tCons (tVar 3) tNil))) tNil [some (.ref a), some (.int (many : Nat)), some (.int (goal : Nat)), some (.int (other : Nat)), some (.int way), none, some (.ref p6), some (.ref pg), v8, none] (upd G3 t1 (.tup (V.str "switch" :: V.ref p :: xs))) fun ys G4 => (V.ref t1 :: ys).length ≤ sizeLine ∧ ∀ t2, G4 t2 = none → Q (.ref t2) (upd G4 t2 (.tup (V.ref t1 :: ys))) := fun p G2 xa2 w2 np hsq h6' ha2 => by
          refine rd_cons (rd_ev (ev_var rfl) fun G3 x3 => rd_nil ⟨by show 3 ≤ sizeLine; decide, fun t1 ht1 => ?_⟩)
          have e4 := x3.trans (Ex.new (o := .tup [V.str "switch", V.ref p, V.int (other : Nat)]) ht1)
          have w4 := w2.ex e4
          have nt1 := (xa2.trans (Exa.of x3)).none (w2.ex x3) ht1
          have ht4 : (upd G3 t1 (.tup [V.str "switch", V.ref p, V.int (other : Nat)])) t1 = some (.tup [V.str "switch", V.ref p, V.int (other : Nat)]) := upd_same
          generalize upd G3 t1 (.tup [V.str "switch", V.ref p, V.int (other : Nat)]) = G4 at e4 w4 ht4 ⊢
          have gv : given us.length (fun _ => true) (fun i => V.int ((qs.getD i (0, 0)).2 : Nat)) = qs.map fun q => V.int (q.2 : Nat) := by
            rw [lu]
            exact given_all qs _ _ fun i c hc => by rw [List.getD_eq_getElem?_getD, hc]; rfl
          refine rd_cons ?_
          refine el_cat (xs := qs.map fun q => V.int (q.2 : Nat)) (ys := [.int (other : Nat)]) ?_ (fun G5 x5 => el_lst (ea_cons (ev_var rfl) ea_nil) (by show 1 ≤ 100000; decide)) (by rw [List.length_map]; show qs.length + 1 ≤ _; omega) G4 (Ex.refl G4) _ fun gl G5 hgl x5 h5 => rd_nil ⟨by show 2 ≤ sizeLine; decide, ?_⟩
          · rw [← gv]
            refine el_lcL (fun _ => true) _ (ev_var rfl) (sq_of (e4 _ _ h6')) (by omega) (fun _ => rfl) (fun _ _ _ _ _ => et_yes) fun i y G5 x5 hy _ => ?_
            obtain ⟨m, hm, t, rfl, _, ht⟩ := ha2.get hy
            exact ev_is (ev_ix0 rfl ((e4.trans x5) _ _ ht) rfl) (by rw [List.getD_eq_getElem?_getD, hm]; rfl)
          · have e5 := e4.trans x5
            exact fin (.ref t1) gl G5 (.sw qs other) (xa2.trans (Exa.of e5)) (w2.ex e5) (fun b hb => ⟨t1, _, rfl, nb nt1 hb, x5 _ _ ht4, p, us, rfl, nb np hb, hsq.imp (e5 _ _) (e5 _ _), ha2.imp fun _ _ k => (k.kt (Kt.of e5)).pr hb⟩) okS (by rw [h5]; simp [Ins.goals]) (well_ne w4 hgl) (xa2.none w2 (fresh_back e4 hgl))
        refine rd_ret (rd_tup (rd_cons (rd_tup (rd_cons (rd_c (rd_cons (rd_call (rd_cons (rd_ev (ev_var rfl) fun G2 x2 => rd_cons (rd_lst (rd_cons (rd_ev (ev_var rfl) fun G3 x3 => rd_cons (rd_cb (rd_cons (rd_ev (ev_var rfl) fun G4 x4 => rd_nil ⟨p6, us, rfl, .inl ⟨sq_of (((x2.trans x3).trans x4) _ _ h6), fun tp htp => rd_nil ⟨by show 2 ≤ sizeLine; decide, fun pl hpl => rd_nil ?_⟩⟩⟩)))))))))))))))
        have e4 := (x2.trans x3).trans x4
        have e5 := e4.trans (Ex.new (o := .tup us) htp)
        have e6 := e5.trans (Ex.new (o := .lst [.ref p6, .ref tp]) hpl)
        have w10 := w8.ex e6
        have ntp := (xa8.trans (Exa.of e4)).none (w8.ex e4) htp
        have htp6 : (upd (upd G4 tp (.tup us)) pl (.lst [.ref p6, .ref tp])) tp = some (.tup us) := Ex.new hpl _ _ upd_same
        refine ⟨a, pl, [.ref p6, .ref tp], n + 4 + dd, rfl, upd_same, well_ne (w8.ex e5) hpl, (fun z => by cases z), (by show 2 ≤ 1000; decide), w10, by omega, fun v G7 hv xa7 w7' => ?_⟩
        have T7 := sq_tup w10 xa7
        have hfin := (hf1.imp fun _ _ k => k.kt (Kt.of e6)).imp fun _ _ k => k.kt T7
        have h67 := xa7 _ _ n6a (e6 _ _ h6)
        have xaf := (xa8.trans (Exa.of e6)).trans xa7
        rcases List.mem_cons.mp hv with rfl | hv
        · exact rest p6 G7 xaf (w7'.le (by omega)) n6 (.inl h67) h67 hfin
        · obtain rfl := List.mem_singleton.mp hv
          exact rest tp G7 xaf (w7'.le (by omega)) ntp (.inr (T7 _ _ htp6)) h67 hfin
    · have xa16 := xa15.trans (Exa.of x6)
      have w6 := w5.ex x6
      refine rd_ret (rd_tup (rd_cons (dr_oneF (os := [.tup [.str "iconst", .int (goal : Nat)], .tup [.str "iload", .int 3], .tup [.str "invokestatic", .str "A", .str "go", .str "()V"], .tup [.str "new", .str "A"]]) (ev_var rfl) (eo_U (fun _ => eu_tup (ea_cons ev_c (ea_cons (ev_var rfl) ea_nil)) (by show 2 ≤ 100000; decide)) (eo_U (fun _ => eu_tup (ea_cons ev_c (ea_cons ev_c ea_nil)) (by decide)) (eo_U (fun _ => eu_tup (ea_cons ev_c (ea_cons ev_c (ea_cons ev_c (ea_cons ev_c ea_nil)))) (by decide)) (eo_U (fun _ => eu_tup (ea_cons ev_c (ea_cons ev_c ea_nil)) (by decide)) eo_nil)))) (fun z => by cases z) (by show 4 ≤ 1000; decide) w6 (by omega) fun t1 o H7 ho xa7 w7 h7 n1 => rd_cons (rd_lst (rd_nil ⟨by decide, fun gl hgl => ?_⟩)))))
      have hgl0 := (xa16.trans xa7).none w7 hgl
      have xl := Ex.new (o := .lst []) hgl
      have ng := well_ne w7 hgl
      have go : ∀ (r : Ins) (xs : List V), o = .tup xs → (∀ b, InsP b (upd H7 gl (.lst [])) r xs) → r.goals = [] → InsOk many r → ∀ p, (upd H7 gl (.lst [])) p = none → Q (.ref p) (upd (upd H7 gl (.lst [])) p (.tup [.ref t1, .ref gl])) := fun r xs e hP hg ok =>
        fin _ gl _ r ((xa16.trans xa7).trans (Exa.of xl)) ((w7.ex xl).le (by omega)) (fun b hb => ⟨t1, xs, rfl, nb (xa16.none w6 n1) hb, by rw [← e]; exact xl _ _ h7, hP b⟩) ok (by rw [hg]; exact upd_same) ng hgl0
      refine rd_nil ⟨by show 2 ≤ sizeLine; decide, ?_⟩
      rcases List.mem_cons.mp ho with e | ho
      · exact go (.ic goal) _ e (fun _ => rfl) rfl (show goal < many by omega)
      rcases List.mem_cons.mp ho with e | ho
      · exact go .il _ e (fun _ => rfl) rfl trivial
      rcases List.mem_cons.mp ho with e | ho
      · exact go .iv _ e (fun _ => rfl) rfl trivial
      rcases List.mem_cons.mp ho with e | ho
      · exact go .nw _ e (fun _ => rfl) rfl trivial
      · cases ho
end
end N8

set_option maxHeartbeats 4000000
set_option autoImplicit false
namespace N8
open PySem PySem.Spec PyProof.Rows L2 Evl
open SX (S)
abbrev sLawCode : Stmt := topS 80
theorem scLawCode : FnScope ["well", "many", "rows", "spots", "index", "row", "goals", "takers", "k", "begin", "end", "answer"] ["well"] (L2.defScope sLawCode) := ⟨rfl, rfl, rfl, by decide +kernel, rfl, by decide +kernel, by decide +kernel⟩

theorem InsAt.two {a b : Addr} {H H' : Hp} {v : V} {r : Ins} (h1 : InsAt a H v r) (h2 : InsAt b H v r) (hk : Kt H H') (hl : ∀ p xs, p ≠ a → p ≠ b → H p = some (.lst xs) → H' p = some (.lst xs)) : InsAt a H' v r := by
  obtain ⟨t, xs, rfl, n, ht, hp⟩ := h1
  obtain ⟨t', xs', e, n', ht', hp'⟩ := h2
  obtain rfl : t = t' := V.ref.inj e
  rw [ht] at ht'
  obtain rfl : xs = xs' := HO.tup.inj (Option.some.inj ht')
  refine ⟨t, xs, rfl, n, hk _ _ ht, ?_⟩
  cases r with
  | sw ps o =>
    obtain ⟨p, vs, e1, e2, e3, e4⟩ := hp
    obtain ⟨p', vs', f1, f2, _⟩ := hp'
    rw [e1] at f1
    have ep : p = p' := by
      injection f1 with _ f1
      injection f1 with f1
      exact V.ref.inj f1
    exact ⟨p, vs, e1, e2, e3.imp (hl p vs e2 (ep ▸ f2)) (hk _ _), e4.imp fun _ _ k => k.kt hk⟩
  | _ => exact hp
def Ins3 (a b c : Addr) (H : Hp) (v : V) (r : Ins) : Prop := InsAt a H v r ∧ InsAt b H v r ∧ InsAt c H v r
theorem Ins3.one {a b c d : Addr} {H H' : Hp} {v : V} {r : Ins} (h : Ins3 a b c H v r) (hd : InsAt d H v r) (hk : Kt H H') (e : Exa d H H') : Ins3 a b c H' v r :=
  ⟨h.1.two hd hk fun p xs _ n k => e p _ n k, h.2.1.two hd hk fun p xs _ n k => e p _ n k, h.2.2.two hd hk fun p xs _ n k => e p _ n k⟩
theorem Ins3.ex {a b c : Addr} {H H' : Hp} {v : V} {r : Ins} (h : Ins3 a b c H v r) (e : Ex H H') : Ins3 a b c H' v r := ⟨h.1.ex e, h.2.1.ex e, h.2.2.ex e⟩
section
variable {σ : L2.St} {H : Hp} {te : TE} {Q : VK}
/-- over range(n), told by a word of one's own -/
theorem lc_rangeD {tr : TA} {n : Nat} {g : TG} {tt : TT} {vs : List Nat} (h : EvA tr σ H [.int (n : Nat)]) (hn : n ≤ 40000)
    (go : ∀ H1 Dl, Ex H H1 → H1 Dl = none → ∃ Pv : Nat → Hp → Prop, Pv 0 (upd H1 Dl (.lst [])) ∧ (∀ (i : Nat) G, i < n → Pv i G → g (.int (i : Nat)) (wipe σ vs) G fun σ2 H2 => wipe σ2 vs = wipe σ vs ∧ tt σ2 H2 fun b H3 => if b = true then te σ2 H3 fun y H4 => ∃ acc, H4 Dl = some (.lst acc) ∧ acc.length < sizeLine ∧ Pv (i + 1) (upd H4 Dl (.lst (acc ++ [y]))) else Pv (i + 1) H3) ∧ ∀ G, Pv n G → Q (.ref Dl) G) :
    tLc (iRng1 tr) g tt te vs σ H Q := h H (Ex.refl H) _ fun H1 e => ⟨(n : Nat), rfl, by omega, by omega, fun Dl hD => by
  obtain ⟨Pv, p0, ps, pe⟩ := go H1 Dl e hD
  exact lc_range (lo := 0) (n := ((n : Nat) : Int).toNat) Pv p0 (fun i G hi p => by
    have := ps i G (by omega) p
    rw [Int.zero_add]
    exact this) fun G p => pe G (by rwa [Int.toNat_natCast] at p)⟩
end
/-- what the rows alone want -/
def RowsN (rs : List Ins) (many n : Nat) (k : Int) : Prop := ∃ j r, j < n ∧ rs[j]? = some r ∧ (k ∈ r.goals ∨ (r.last = true ∧ j + 1 < many ∧ k = ((j + 1 : Nat) : Int)))
def spLCode (K : PySem.W.Frag) : Sp := fun vs H Q _ => ∃ (a : Addr) (n : Nat), vs = [.ref a] ∧ WellAt H a n ∧ n ≤ 100000 ∧
  ∀ (t x pd : Addr) (C : CodeS) (ds : List Int) (H' : Hp), Exa a H H' → WellAt H' a (n + 2500) → H' t = some (.tup [.ref x, .ref pd]) → CodeAt K a H' x C → CodeOk C → H' pd = some (.lst (ds.map V.int)) → ds.length ≤ 5000 → H pd = none → H x = none → ds.Pairwise (· < ·) → (∀ k, k ∈ ds ↔ NeedR C C.rs.length k) → Q (.ref t) H'
section
variable {P : Program} {w : World} {K : PySem.W.Frag} {mg : Str → Option Value} {base : Heap}
set_option maxHeartbeats 16000000 in
theorem ok_lawCode {f : Addr} {fd : FuncData} (F : FnP K "_law_code" sLawCode f fd) (B : Bt mg) (MC : MkCo P w K mg base) (c_law_draw : Cl P w K mg base L2.CX0 1 "_law_draw" ["well", "many"] spDraw) (c_law_one : Cl P w K mg base L2.CX0 2 "_law_one" ["well", "some"] spOne) (c_law_row : Cl P w K mg base L2.CX0 3 "_law_row" ["well", "many"] spLRow) :
    FnOk P w K mg base L2.CX0 14 f fd ["well"] (spLCode K) := by
  refine F.ok scLawCode (fun vs H Q E h => ?_) (fun cdv A outer s H vs Q E hr h => ?_)
  · obtain ⟨a, n, rfl, _⟩ := h
    rfl
  · obtain ⟨a, n, rfl, hw, hn, q⟩ := h
    refine ⟨_, PSs.nox (pss_cons (ps_set (i := 1) scLawCode.nd rfl (.inl rfl) (pe_op op_add pe_int (pe_cl c_law_draw hr (by decide) (by rfl) (pa_cons (pv 0) (pa_cons (pe_cl c_law_one hr (by decide) (by rfl) (pa_cons (pv 0) (pa_cons (pe_lst (pa_cons pe_int (pa_cons pe_int (pa_cons pe_int pa_nil)))) pa_nil))) pa_nil)))))
      (pss_cons (ps_par (i := 2) (j := 3) rfl scLawCode.nd rfl rfl (by decide) rfl rfl (pa_cons (pe_lst pa_nil) (pa_cons (pe_lst pa_nil) pa_nil)) rfl)
      (pss_cons (ps_for PassesOwn.never rfl (pi_range1 (by rfl) B.range (pa_cons (pv 1) pa_nil)) (pg_name (i := 4) scLawCode.nd rfl (.inl rfl)) (pss_cons (ps_asg (pe_cl c_law_row hr (by decide) (by rfl) (pa_cons (pv 0) (pa_cons (pv 1) pa_nil))) (pg_tup rfl (pgs_cons (pg_name (i := 5) scLawCode.nd rfl (.inl rfl)) (pgs_cons (pg_name (i := 6) scLawCode.nd rfl (.inl rfl)) pgs_nil))))
      (pss_cons (ps_expr (pe_bm PySem.F.plainAttrs_list PySem.F.slot_list_append PySem.F.type_list_append mt_append (pv 2) (pa_cons (pv 5) pa_nil)))
      (pss_cons (ps_expr (pe_bm PySem.F.plainAttrs_list PySem.F.slot_list_extend PySem.F.type_list_extend mt_extend (pv 3) (pa_cons (pv 6) pa_nil)))
      (pss_one (ps_if (PW.pt (pw_and (pt_cmpR op_in_seq (pe_ix ix_tup (pv 5) pe_int (fun _ _ => rfl)) (pe_tup (pa_cons pe_str (pa_cons pe_str (pa_cons pe_str (pa_cons pe_str (pa_cons pe_str (pa_cons pe_str (pa_cons pe_str pa_nil)))))))) rfl) (pw_and1 (pt_cmpR op_lt (pe_op op_add (pv 4) pe_int) (pv 1) (nomark _))))) (pss_one (ps_expr (pe_bm PySem.F.plainAttrs_list PySem.F.slot_list_append PySem.F.type_list_append mt_append (pv 3) (pa_cons (pe_op op_add (pv 4) pe_int) pa_nil)))) pss_nil))))))
      (pss_cons (ps_set (i := 7) scLawCode.nd rfl (.inl rfl) (pe_lst pa_nil))
      (pss_cons (ps_for PassesOwn.never rfl (pi_range1 (by rfl) B.range (pa_cons (pe_cl c_law_draw hr (by decide) (by rfl) (pa_cons (pv 0) (pa_cons pe_int pa_nil))) pa_nil)) (pg_name (i := 8) scLawCode.nd rfl (.inl rfl)) (pss_cons (ps_set (i := 9) scLawCode.nd rfl (.inl rfl) (pe_cl c_law_draw hr (by decide) (by rfl) (pa_cons (pv 0) (pa_cons (pv 1) pa_nil))))
      (pss_cons (ps_set (i := 10) scLawCode.nd rfl (.inl rfl) (pe_op op_add (pe_op op_add (pv 9) pe_int) (pe_cl c_law_draw hr (by decide) (by rfl) (pa_cons (pv 0) (pa_cons (pe_op op_sub (pv 1) (pv 9)) pa_nil)))))
      (pss_cons (ps_expr (pe_bm PySem.F.plainAttrs_list PySem.F.slot_list_append PySem.F.type_list_append mt_append (pv 7) (pa_cons (pe_tup (pa_cons (pv 9) (pa_cons (pv 10) (pa_cons (pe_cl c_law_draw hr (by decide) (by rfl) (pa_cons (pv 0) (pa_cons (pv 1) pa_nil))) (pa_cons (pe_cl c_law_one hr (by decide) (by rfl) (pa_cons (pv 0) (pa_cons (pe_lst (pa_cons pe_non (pa_cons pe_str pa_nil))) pa_nil))) pa_nil))))) pa_nil)))
      (pss_one (ps_expr (pe_bm PySem.F.plainAttrs_list PySem.F.slot_list_append PySem.F.type_list_append mt_append (pv 3) (pa_cons (pe_ix ix_tup (pe_ix ix_list (pv 7) (pe_un un_neg pe_int) (fun _ _ => rfl)) pe_int (fun _ _ => rfl)) pa_nil))))))))
      (pss_cons (ps_setLc (i := 11) (own := [("index", 4)]) (g := gName 4) rfl scLawCode.nd rfl rfl (sw_true rfl rfl rfl (by decide +kernel)) (pi_range1 (by rfl) B.range (pa_cons (pv 1) pa_nil)) (blkOk_by (N := ["well", "many", "rows", "spots", "index", "row", "goals", "takers", "k", "begin", "end", "answer"]) (sc := L2.defScope sLawCode) (by decide +kernel)) (fun _ _ _ _ _ => pg_name (i := 4) scLawCode.nd rfl (Or.inl rfl)) (fun _ _ _ _ _ => (pts_one (pt_cmpR op_eq (pe_cl c_law_draw hr (by decide) (by rfl) (pa_cons (pv 0) (pa_cons pe_int pa_nil))) pe_int (nomark _)))) (fun _ _ _ _ _ => (pe_tup (pa_cons (pv 4) (pa_cons (pe_tup pa_nil) (pa_cons (pe_tup pa_nil) pa_nil))))))
      (pss_one (ps_ret (pe_tup (pa_cons (MkCo.pe MC hr (by decide) (by rfl) (pa_cons (pe_cl c_law_draw hr (by decide) (by rfl) (pa_cons (pv 0) (pa_cons pe_int pa_nil))) (pa_cons pe_int (pa_cons (pv 2) (pa_cons (pv 7) (pa_cons (pv 11) pa_nil)))))) (pa_cons (pe_callB (SI.cr_sortSI rfl) (by rfl) B.sorted (by decide +kernel) (pa_cons (pe_callTy (SI.cr_setI rfl) (by rfl) B.set (by decide +kernel) (pa_cons (pv 3) pa_nil)) pa_nil)) pa_nil))))))))))), ?_⟩
    refine q_asgAny (rd_op (rd_c (rd_call (rd_cons (rd_ev (ev_var rfl) fun H1 x1 => rd_cons (dr_oneL (xs := [.int 30, .int 30, .int 200]) (ev_var rfl) (el_lst (ea_cons ev_c (ea_cons ev_c (ea_cons ev_c ea_nil))) (by decide)) (by decide) (by decide) (hw.ex x1) (by omega) fun v H2 hv xa2 w2 => rd_nil ?_))))))
    obtain ⟨m, rfl, m0, m9⟩ : ∃ m : Int, v = .int m ∧ 0 < m ∧ m ≤ 200 := by
      rcases List.mem_cons.mp hv with rfl | hv
      · exact ⟨30, rfl, by decide, by decide⟩
      rcases List.mem_cons.mp hv with rfl | hv
      · exact ⟨30, rfl, by decide, by decide⟩
      · obtain rfl := List.mem_singleton.mp hv
        exact ⟨200, rfl, by decide, by decide⟩
    refine ⟨a, m, n + 1, rfl, m0, by omega, w2, by omega, fun d H3 d0 d1 xa3 w3 => ⟨1, d, rfl, rfl, ?_⟩⟩
    obtain ⟨many, hmany⟩ := Int.eq_ofNat_of_zero_le (show 0 ≤ 1 + d by omega)
    dsimp only
    rw [hmany]
    have mny1 : 1 ≤ many := by omega
    have mny9 : many ≤ 200 := by omega
    have xaH3 := ((Exa.of x1).trans xa2).trans xa3
    clear hmany hv
    -- the lists
    refine rd_seq (show tPar _ _ _ _ _ _ from rd_cons (rd_lst (rd_nil ⟨by decide, fun rp hrp => rd_cons (rd_lst (rd_nil ⟨by decide, fun sp hsp => rd_nil ⟨_, _, rfl, ?_⟩⟩))⟩)))
    have e4 : Ex H3 (upd (upd H3 rp (.lst [])) sp (.lst [])) := (Ex.new hrp).trans (Ex.new hsp)
    have nrs : rp ≠ sp := fun z => by rw [← z, upd_same] at hsp; cases hsp
    have h4r : (upd (upd H3 rp (.lst [])) sp (.lst [])) rp = some (.lst []) := by rw [upd_ne nrs]; exact upd_same
    have h4s : (upd (upd H3 rp (.lst [])) sp (.lst [])) sp = some (.lst []) := upd_same
    have nra := well_ne w3 hrp
    have nsa := well_ne (w3.ex (Ex.new (o := .lst []) hrp)) hsp
    have frp : H rp = none := xaH3.none w3 hrp
    have fsp : H sp = none := xaH3.none w3 (fresh_back (Ex.new (o := .lst []) hrp) hsp)
    have xa4 := xaH3.trans (Exa.of e4)
    have w4 := w3.ex e4
    generalize upd (upd H3 rp (.lst [])) sp (.lst []) = H4 at h4r h4s xa4 w4 ⊢
    refine q_forR1 (n := (many : Nat)) (ea_cons (ev_var rfl) ea_nil) (by omega) (fun i σ' G => ∃ (rs : List Ins) (vs : List V) (ks : List Int) (v4 v5 v6 : Option V), σ' = [some (.ref a), some (.int (many : Nat)), some (.ref rp), some (.ref sp), v4, v5, v6, none, none, none, none, none] ∧ rs.length = i ∧ G rp = some (.lst vs) ∧ All2 (Ins3 a rp sp G) vs rs ∧ (∀ r ∈ rs, InsOk many r) ∧
      G sp = some (.lst (ks.map V.int)) ∧ ks.length ≤ 12 * i ∧ (∀ k, k ∈ ks ↔ RowsN rs many i k) ∧ Exa a H G ∧ WellAt G a (n + 2 + 8 * i)) (fun H5 x5 => ⟨[], [], [], none, none, none, rfl, rfl, x5 _ _ h4r, .nil, fun r hr => (by cases hr), x5 _ _ h4s, Nat.zero_le _, fun k => ⟨fun h => (by cases h), fun ⟨j, _, hj, _⟩ => absurd hj (Nat.not_lt_zero _)⟩, xa4.trans (Exa.of x5), w4.ex x5⟩) (fun i σ' G hi p => ?_) fun σ' G p => ?_
    · obtain ⟨rs, vs, ks, v4, v5, v6, rfl, hl, hr1, ha1, ok1, hs1, lk, mk, xG, wG⟩ := p
      have lv := ha1.len
      refine rd_seq (rd_asg (rd_call (rd_cons (rd_ev (ev_var rfl) fun G1 x1 => rd_cons (rd_ev (ev_var rfl) fun G2 x2 => rd_nil ⟨a, many, n + 2 + 8 * i, rfl, mny1, by omega, wG.ex (x1.trans x2), by omega, fun t v gl r G3 xa3 w3 ht htt ng hgl fgl hI okr => tup2 (st_of htt) ?_⟩)))))
      have x12 := x1.trans x2
      have hr2 := x12 _ _ hr1
      have hs2 := x12 _ _ hs1
      have k23 := sq_tup (wG.ex x12) xa3
      have al : ∀ {b : Addr} {o : HO}, G2 b = some o → G2 b ≠ none := fun h z => by rw [h] at z; cases z
      have aw : G2 a ≠ none := by
        obtain ⟨y, c, z, _⟩ := wG.ex x12
        exact al z
      have I3 : Ins3 a rp sp G3 v r := ⟨hI a aw, hI rp (al hr2), hI sp (al hs2)⟩
      have ha3 : All2 (Ins3 a rp sp G3) vs rs := ha1.imp fun _ _ k => (k.ex x12).one (k.ex x12).1 k23 xa3
      have hr3 := xa3 _ _ nra hr2
      have hs3 := xa3 _ _ nsa hs2
      have xaH := (xG.trans (Exa.of x12)).trans xa3
      have ngr : gl ≠ rp := fun z => by rw [z, hr2] at fgl; cases fgl
      have ngs : gl ≠ sp := fun z => by rw [z, hs2] at fgl; cases fgl
      have okg := goals11 okr
      refine q_app hr3 (ev_var rfl) (ev_var rfl) (by omega) fun G4 x4 => ?_
      have k4 : Kt G4 (upd G4 rp (.lst (vs ++ [v]))) := Kt.exa (x4 _ _ hr3) Exa.upd
      have ha5 : All2 (Ins3 a rp sp (upd G4 rp (.lst (vs ++ [v])))) (vs ++ [v]) (rs ++ [r]) := ((ha3.imp fun _ _ k => (k.ex x4).one (k.ex x4).2.1 k4 Exa.upd)).app ((I3.ex x4).one (I3.ex x4).2.1 k4 Exa.upd)
      have hs5 : (upd G4 rp (.lst (vs ++ [v]))) sp = some (.lst (ks.map V.int)) := by rw [upd_ne nrs.symm]; exact x4 _ _ hs3
      have hg5 : (upd G4 rp (.lst (vs ++ [v]))) gl = some (.lst (r.goals.map V.int)) := by rw [upd_ne ngr]; exact x4 _ _ hgl
      have hr5 : (upd G4 rp (.lst (vs ++ [v]))) rp = some (.lst (vs ++ [v])) := upd_same
      have xa5 : Exa a H (upd G4 rp (.lst (vs ++ [v]))) := fun b o nb hb => by
        rw [upd_ne (ne_of_none hb frp)]
        exact x4 _ _ (xaH b o nb hb)
      have w5 : WellAt (upd G4 rp (.lst (vs ++ [v]))) a (n + 2 + 8 * i + 8) := by
        obtain ⟨y, c, z1, z2⟩ := w3
        exact ⟨y, c, by rw [upd_ne nra.symm]; exact x4 _ _ z1, z2⟩
      generalize upd G4 rp (.lst (vs ++ [v])) = G5 at ha5 hs5 hg5 hr5 xa5 w5 ⊢
      refine rd_seq (show tDrop _ _ _ _ from ⟨.ref sp, rfl, Or.inl ⟨rfl, _, sq_of hs5⟩, rd_cons (rd_ev (ev_var rfl) fun G6 x6 => rd_nil ⟨sp, gl, ks.map V.int, r.goals.map V.int, rfl, rfl, x6 _ _ hs5, x6 _ _ hg5, sz_of (by rw [List.length_map, List.length_map]; omega), ?_⟩)⟩)
      have k6 : Kt G6 (upd G6 sp (.lst (ks.map V.int ++ r.goals.map V.int))) := Kt.exa (x6 _ _ hs5) Exa.upd
      have ha7 : All2 (Ins3 a rp sp (upd G6 sp (.lst (ks.map V.int ++ r.goals.map V.int)))) (vs ++ [v]) (rs ++ [r]) := ha5.imp fun _ _ k => (k.ex x6).one (k.ex x6).2.2 k6 Exa.upd
      have hs7 : (upd G6 sp (.lst (ks.map V.int ++ r.goals.map V.int))) sp = some (.lst ((ks ++ r.goals).map V.int)) := by rw [List.map_append]; exact upd_same
      have hr7 : (upd G6 sp (.lst (ks.map V.int ++ r.goals.map V.int))) rp = some (.lst (vs ++ [v])) := by rw [upd_ne nrs]; exact x6 _ _ hr5
      have xa7 : Exa a H (upd G6 sp (.lst (ks.map V.int ++ r.goals.map V.int))) := fun b o nb hb => by
        rw [upd_ne (ne_of_none hb fsp)]
        exact x6 _ _ (xa5 b o nb hb)
      have w7 : WellAt (upd G6 sp (.lst (ks.map V.int ++ r.goals.map V.int))) a (n + 2 + 8 * i + 8) := by
        obtain ⟨y, c, z1, z2⟩ := w5
        exact ⟨y, c, by rw [upd_ne nsa.symm]; exact x6 _ _ z1, z2⟩
      generalize upd G6 sp (.lst (ks.map V.int ++ r.goals.map V.int)) = G7 at ha7 hs7 hr7 xa7 w7 ⊢
      have len7 : (rs ++ [r]).length = i + 1 := by rw [List.length_append, hl]; rfl
      have ok7 : ∀ x ∈ rs ++ [r], InsOk many x := fun x hx => by
        rcases List.mem_append.mp hx with hx | hx
        · exact ok1 x hx
        · obtain rfl := List.mem_singleton.mp hx
          exact okr
      have old : ∀ {j : Nat} {y : Ins}, j < i → ((rs ++ [r])[j]? = some y ↔ rs[j]? = some y) := fun {j y} hj => by rw [List.getElem?_append_left (by omega)]
      have new : (rs ++ [r])[i]? = some r := by rw [List.getElem?_append_right (by omega), hl, Nat.sub_self]; rfl
      obtain ⟨tv, ts, rfl, _, htv, hP⟩ : InsAt a G7 v r := by
        obtain ⟨m, hm, k⟩ := ha7.get (i := i) (v := v) (by rw [List.getElem?_append_right (by omega), show i - vs.length = 0 by omega]; rfl)
        rw [new] at hm
        obtain rfl := Option.some.inj hm
        exact k.1
      obtain ⟨ys, rfl, _⟩ := hP.head
      have tst : ∀ {G8 : Hp}, Ex G7 G8 → True := fun _ => trivial
      refine s_when (b := r.last && decide (i + 1 < many)) (et_and (et_test (ev_is (ev_inU (xs := lastW.map V.str) (ev_ix0 rfl htv atI_zero) (eu_tup (ea_cons ev_c (ea_cons ev_c (ea_cons ev_c (ea_cons ev_c (ea_cons ev_c (ea_cons ev_c (ea_cons ev_c ea_nil))))))) (by decide)) rfl (flat_strs _)) (by rw [inV_strs]; rfl))) fun _ => et_test (ev_is (ev_op (ev_op (ev_var rfl) ev_c rv_I0) (ev_var rfl) rv_I0) (congrArg V.bl (decide_eq_decide.mpr (by omega))))) (fun e G8 x8 => ?_) fun e G8 x8 => ?_
      · refine s_app (x8 _ _ hs7) (ev_var rfl) (v := .int ((i + 1 : Nat) : Int)) (ev_is (ev_op (ev_var rfl) ev_c rv_I0) (congrArg V.int (by omega))) (by rw [List.length_map, List.length_append]; omega) fun G9 x9 => ?_
        have x89 := x8.trans x9
        have k9 : Kt G9 (upd G9 sp (.lst ((ks ++ r.goals).map V.int ++ [.int ((i + 1 : Nat) : Int)]))) := Kt.exa (x89 _ _ hs7) Exa.upd
        refine ⟨rs ++ [r], _, ks ++ r.goals ++ [((i + 1 : Nat) : Int)], _, _, _, rfl, len7, by rw [upd_ne nrs]; exact x89 _ _ hr7, ha7.imp fun _ _ k => (k.ex x89).one (k.ex x89).2.2 k9 Exa.upd, ok7, by rw [List.map_append (l₁ := ks ++ r.goals)]; exact upd_same, by rw [List.length_append, List.length_append]; show ks.length + r.goals.length + 1 ≤ _; omega, fun k => ?_, fun b o nb hb => ?_, ?_⟩
        · obtain ⟨b1, b2⟩ := Bool.and_eq_true_iff.mp e
          have b3 := of_decide_eq_true b2
          rw [List.mem_append, List.mem_append, List.mem_singleton, mk k]
          constructor
          · rintro ((⟨j, y, hj, h1, h2⟩ | h) | h)
            · exact ⟨j, y, by omega, (old hj).mpr h1, h2⟩
            · exact ⟨i, r, by omega, new, .inl h⟩
            · exact ⟨i, r, by omega, new, .inr ⟨b1, b3, h⟩⟩
          · rintro ⟨j, y, hj, h1, h2⟩
            by_cases ji : j = i
            · subst ji
              rw [new] at h1
              obtain rfl := Option.some.inj h1
              rcases h2 with h | ⟨_, _, h⟩
              · exact .inl (.inr h)
              · exact .inr h
            · exact .inl (.inl ⟨j, y, by omega, (old (by omega)).mp h1, h2⟩)
        · rw [upd_ne (ne_of_none hb fsp)]
          exact x89 _ _ (xa7 b o nb hb)
        · obtain ⟨y, c, z1, z2⟩ := w7
          exact ⟨y, c, by rw [upd_ne nsa.symm]; exact x89 _ _ z1, by omega⟩
      · refine ⟨rs ++ [r], _, ks ++ r.goals, _, _, _, rfl, len7, x8 _ _ hr7, ha7.imp fun _ _ k => k.ex x8, ok7, x8 _ _ hs7, by rw [List.length_append]; omega, fun k => ?_, xa7.trans (Exa.of x8), (w7.ex x8).le (by omega)⟩
        rw [List.mem_append, mk k]
        constructor
        · rintro (⟨j, y, hj, h1, h2⟩ | h)
          · exact ⟨j, y, by omega, (old hj).mpr h1, h2⟩
          · exact ⟨i, r, by omega, new, .inl h⟩
        · rintro ⟨j, y, hj, h1, h2⟩
          by_cases ji : j = i
          · subst ji
            rw [new] at h1
            obtain rfl := Option.some.inj h1
            rcases h2 with h | ⟨c1, c2, _⟩
            · exact .inr h
            · rw [c1, decide_eq_true c2] at e
              cases e
          · exact .inl ⟨j, y, by omega, (old (by omega)).mp h1, h2⟩
    · obtain ⟨rs, vs, ks, v4, v5, v6, rfl, hl, hr1, ha1, ok1, hs1, lk, mk, xG, wG⟩ := p
      rw [Int.toNat_natCast] at hl lk mk wG
      have lv := ha1.len
      refine q_asgL (el_lst ea_nil (by decide)) fun tk G1 htk x1 htk1 => ?_
      have nta := well_ne wG htk
      have hrp0 := hr1
      have hsp0 := hs1
      have ntr : rp ≠ tk := ne_of_none hr1 htk
      have nts : sp ≠ tk := ne_of_none hs1 htk
      refine rd_seq (s_forDraw (ev_var rfl) ev_c (by decide) (by decide) (wG.ex x1) (by omega) (fun i σ' G2 => ∃ (hs : List Hdl) (us : List V) (ls : List Int) (v8 v9 v10 : Option V), σ' = [some (.ref a), some (.int (many : Nat)), some (.ref rp), some (.ref sp), v4, v5, v6, some (.ref tk), v8, v9, v10, none] ∧ hs.length = i ∧ G2 tk = some (.lst us) ∧ All2 (HdAt G2) us hs ∧ (∀ h ∈ hs, HdOk many h) ∧
        G2 sp = some (.lst (ls.map V.int)) ∧ ls.length ≤ 12 * many + i ∧ (∀ k, k ∈ ls ↔ k ∈ ks ∨ ∃ h ∈ hs, k = (h.t : Nat)) ∧ (∀ b o, b ≠ a → b ≠ sp → G b = some o → G2 b = some o) ∧ WellAt G2 a (n + 3 + 8 * many + 4 * i)) (fun G2 xa2 w2 => ⟨[], [], ks, none, none, none, rfl, rfl, xa2 _ _ nta htk1, .nil, fun h hh => (by cases hh), xa2 _ _ nsa (x1 _ _ hs1), lk, fun k => ⟨.inl, fun h => h.elim id fun ⟨g, hg, _⟩ => by cases hg⟩, fun b o n1 _ hb => xa2 b o n1 (x1 _ _ hb), w2.le (by omega)⟩) (fun i σ' G2 hi p => ?_) fun dd σ' G2 hdd p => ?_)
      · obtain ⟨hs, us, ls, v8, v9, v10, rfl, hlh, hk2, hh2, okh, hs2, ll, ml, kq, w2⟩ := p
        have lu := hh2.len
        refine q_asgAny (dr_draw (ev_var rfl) (ev_var rfl) (by omega) (by omega) w2 (by omega) fun b G3 b0 b1 xa3 w3 => ?_)
        obtain ⟨b, rfl⟩ := Int.eq_ofNat_of_zero_le b0
        refine q_asgAny (rd_op (rd_ev (ev_op (ev_var rfl) ev_c rv_I0) fun G4 x4 => dr_draw (ev_var rfl) (ev_op (ev_var rfl) (ev_var rfl) rv_I0) (by omega) (by omega) (w3.ex x4) (by omega) fun e G5 e0 e1 xa5 w5 => ⟨_, _, rfl, rfl, ?_⟩))
        obtain ⟨e, rfl⟩ := Int.eq_ofNat_of_zero_le e0
        dsimp only
        have ee : ((b : Nat) : Int) + 1 + ((e : Nat) : Int) = ((b + 1 + e : Nat) : Int) := by omega
        rw [ee]
        have xa25 := (xa3.trans (Exa.of x4)).trans xa5
        have hk5 := xa25 _ _ nta hk2
        refine rd_seq (show tDrop _ _ _ _ from ⟨.ref tk, rfl, Or.inl ⟨rfl, _, sq_of hk5⟩, rd_cons (rd_tup (rd_cons (rd_ev (ev_var rfl) fun G6 x6 => rd_cons (rd_ev (ev_var rfl) fun G7 x7 => rd_cons (dr_draw (ev_var rfl) (ev_var rfl) (by omega) (by omega) ((w5.ex x6).ex x7) (by omega) fun g G8 g0 g1 xa8 w8 => rd_cons (dr_oneL (xs := [.non, .str "A"]) (ev_var rfl) (el_lst (ea_cons ev_c (ea_cons ev_c ea_nil)) (by decide)) (by decide) (by decide) w8 (by omega) fun kv G9 hkv xa9 w9 => rd_nil ⟨by show 4 ≤ sizeLine; decide, fun t ht => rd_nil ⟨tk, us, .ref t, rfl, rfl, (Ex.new ht) _ _ ((((xa25.trans (Exa.of (x6.trans x7))).trans xa8).trans xa9) _ _ nta hk2), sz_lt (by omega), ?_⟩⟩))))))⟩)
        obtain ⟨g, rfl⟩ := Int.eq_ofNat_of_zero_le g0
        have xa29 := ((xa25.trans (Exa.of (x6.trans x7))).trans xa8).trans xa9
        obtain ⟨kb, rfl⟩ : ∃ kb, kv = kV3 kb := by
          rcases List.mem_cons.mp hkv with rfl | hkv
          · exact ⟨false, rfl⟩
          · exact ⟨true, List.mem_singleton.mp hkv⟩
        have K29 := sq_tup w2 xa29
        have hk9 := xa29 _ _ nta hk2
        have hs9 := xa29 _ _ nsa hs2
        have ntk : t ≠ tk := fun z => by rw [z, hk9] at ht; cases ht
        have nt_s : sp ≠ t := ne_of_none hs9 ht
        have K10 : Kt (upd G9 t (.tup [.int (b : Nat), .int ((b + 1 + e : Nat) : Int), .int (g : Nat), kV3 kb])) (upd (upd G9 t (.tup [.int (b : Nat), .int ((b + 1 + e : Nat) : Int), .int (g : Nat), kV3 kb])) tk (.lst (us ++ [.ref t]))) := Kt.exa (Ex.new ht _ _ hk9) Exa.upd
        have h11t : (upd (upd G9 t (.tup [.int (b : Nat), .int ((b + 1 + e : Nat) : Int), .int (g : Nat), kV3 kb])) tk (.lst (us ++ [.ref t]))) t = some (.tup [.int (b : Nat), .int ((b + 1 + e : Nat) : Int), .int (g : Nat), kV3 kb]) := by rw [upd_ne ntk]; exact upd_same
        have h11k : (upd (upd G9 t (.tup [.int (b : Nat), .int ((b + 1 + e : Nat) : Int), .int (g : Nat), kV3 kb])) tk (.lst (us ++ [.ref t]))) tk = some (.lst (us ++ [.ref t])) := upd_same
        have h11s : (upd (upd G9 t (.tup [.int (b : Nat), .int ((b + 1 + e : Nat) : Int), .int (g : Nat), kV3 kb])) tk (.lst (us ++ [.ref t]))) sp = some (.lst (ls.map V.int)) := by rw [upd_ne nts, upd_ne nt_s]; exact hs9
        have hh11 : All2 (HdAt (upd (upd G9 t (.tup [.int (b : Nat), .int ((b + 1 + e : Nat) : Int), .int (g : Nat), kV3 kb])) tk (.lst (us ++ [.ref t])))) (us ++ [.ref t]) (hs ++ [⟨b, b + 1 + e, g, kb⟩]) := (hh2.imp fun _ _ k => (k.kt (K29.trans (Kt.of (Ex.new ht)))).kt K10).app ⟨t, rfl, h11t⟩
        have q11 : ∀ c o, c ≠ a → c ≠ sp → G c = some o → (upd (upd G9 t (.tup [.int (b : Nat), .int ((b + 1 + e : Nat) : Int), .int (g : Nat), kV3 kb])) tk (.lst (us ++ [.ref t]))) c = some o := fun c o c1 c2 hc => by
          rw [upd_ne (ne_of_none hc htk)]
          exact Ex.new ht _ _ (xa29 _ _ c1 (kq c o c1 c2 hc))
        have w11 : WellAt (upd (upd G9 t (.tup [.int (b : Nat), .int ((b + 1 + e : Nat) : Int), .int (g : Nat), kV3 kb])) tk (.lst (us ++ [.ref t]))) a (n + 3 + 8 * many + 4 * i + 4) := by
          obtain ⟨y, c, z1, z2, z3⟩ := w9.ex (Ex.new (o := .tup [.int (b : Nat), .int ((b + 1 + e : Nat) : Int), .int (g : Nat), kV3 kb]) ht)
          exact ⟨y, c, by rw [upd_ne nta.symm]; exact z1, z2, by omega⟩
        generalize upd (upd G9 t (.tup [.int (b : Nat), .int ((b + 1 + e : Nat) : Int), .int (g : Nat), kV3 kb])) tk (.lst (us ++ [.ref t])) = G11 at h11t h11k h11s hh11 q11 w11 ⊢
        refine s_app (v := .int (g : Nat)) h11s (ev_var rfl) (ev_op (ev_op (ev_var rfl) (ev_un ev_c ru_neg) (rv_ixL (sq_of h11k) (atI_last _ _))) ev_c (rv_ixT (st_of h11t) rfl)) (by rw [List.length_map]; omega) fun G12 x12 => ?_
        have K13 : Kt G12 (upd G12 sp (.lst (ls.map V.int ++ [.int (g : Nat)]))) := Kt.exa (x12 _ _ h11s) Exa.upd
        refine ⟨hs ++ [⟨b, b + 1 + e, g, kb⟩], us ++ [.ref t], ls ++ [(g : Int)], _, _, _, rfl, by rw [List.length_append, hlh]; rfl, by rw [upd_ne nts.symm]; exact x12 _ _ h11k, (hh11.imp fun _ _ k => (k.kt (Kt.of x12)).kt K13), fun h hh => ?_, by rw [List.map_append]; exact upd_same, by rw [List.length_append]; show ls.length + 1 ≤ _; omega, fun k => ?_, fun c o c1 c2 hc => by rw [upd_ne c2]; exact x12 _ _ (q11 c o c1 c2 hc), ?_⟩
        · rcases List.mem_append.mp hh with hh | hh
          · exact okh h hh
          · obtain rfl := List.mem_singleton.mp hh
            exact ⟨by show b < b + 1 + e; omega, by show b + 1 + e ≤ many; omega, by show g < many; omega⟩
        · rw [List.mem_append, List.mem_singleton, ml k]
          constructor
          · rintro ((h | ⟨h, hh, z⟩) | h)
            · exact .inl h
            · exact .inr ⟨h, List.mem_append_left _ hh, z⟩
            · exact .inr ⟨_, List.mem_append_right _ (List.mem_singleton_self _), h⟩
          · rintro (h | ⟨h, hh, z⟩)
            · exact .inl (.inl h)
            · rcases List.mem_append.mp hh with hh | hh
              · exact .inl (.inr ⟨h, hh, z⟩)
              · obtain rfl := List.mem_singleton.mp hh
                exact .inr z
        · obtain ⟨y, c, z1, z2, z3⟩ := w11
          exact ⟨y, c, by rw [upd_ne nsa.symm]; exact x12 _ _ z1, z2, by omega⟩
      · obtain ⟨hs, us, ls, v8, v9, v10, rfl, hlh, hk2, hh2, okh, hs2, ll, ml, kq, w2⟩ := p
        have lu := hh2.len
        have wlst : ∃ y c : Int, G a = some (.lst [.int y, .int c]) := by
          obtain ⟨y, c, z, _⟩ := wG
          exact ⟨y, c, z⟩
        have KG : Kt G G2 := fun b xs h => kq b _ (fun z => by
          obtain ⟨y, c, k⟩ := wlst
          rw [z, k] at h
          cases h) (fun z => by rw [z, hs1] at h; cases h) h
        have hI2 : All2 (InsAt a G2) vs rs := ha1.imp fun v r k => k.1.two k.2.2 KG fun p xs n1 n2 hp => kq p _ n1 n2 hp
        have hr2 : G2 rp = some (.lst vs) := kq rp _ nra nrs hr1
        have xa2H : Exa a H G2 := fun b o nb hb => kq b o nb (ne_of_none hb fsp) (xG b o nb hb)
        refine q_asgAny (lc_rangeD (n := many) (ea_cons (ev_var rfl) ea_nil) (by omega) fun G3 Dl x3 hD => ?_)
        have w3 := w2.ex x3
        have nDa := well_ne w3 hD
        refine ⟨fun i G4 => ∃ (fs : List Nat) (ys : List V), G4 Dl = some (.lst ys) ∧ All2 (FrAt G4) ys fs ∧ (∀ x ∈ fs, x < i) ∧ (fs.Pairwise (· < ·)) ∧ fs.length ≤ i ∧ Exa a G3 G4 ∧ WellAt G4 a (n + 3 + 8 * many + 4 * dd + i), ⟨[], [], upd_same, .nil, fun x hx => (by cases hx), .nil, Nat.le_refl _, Exa.of (Ex.new hD), w3.ex (Ex.new hD)⟩, fun i G4 hi p => ?_, fun G4 p => ?_⟩
        · obtain ⟨fs, ys, hD4, hF4, f1, f2, f3, xa4, w4⟩ := p
          have ly := hF4.len
          refine ⟨rfl, dr_draw (ev_var rfl) ev_c (by decide) (by decide) w4 (by omega) fun d G5 d0 d1 xa5 w5 => ⟨rfl, _, rfl, ?_⟩⟩
          have K5 := sq_tup w4 xa5
          dsimp only
          by_cases e : V.int d = V.int 0
          · rw [if_pos (decide_eq_true e)]
            refine rd_tup (rd_cons (rd_ev (ev_var rfl) fun G6 x6 => rd_cons (rd_tup (rd_nil ⟨by decide, fun p1 hp1 => rd_cons (rd_tup (rd_nil ⟨by decide, fun p2 hp2 => rd_nil ⟨by show 3 ≤ sizeLine; decide, fun p hp => ?_⟩⟩))⟩))))
            have e8 := ((x6.trans (Ex.new (o := .tup []) hp1)).trans (Ex.new (o := .tup []) hp2)).trans (Ex.new (o := .tup [.int (i : Nat), .ref p1, .ref p2]) hp)
            have h81 : (upd (upd (upd G6 p1 (.tup [])) p2 (.tup [])) p (.tup [.int (i : Nat), .ref p1, .ref p2])) p1 = some (.tup []) := ((Ex.new (o := .tup []) hp2).trans (Ex.new (o := .tup [.int (i : Nat), .ref p1, .ref p2]) hp)) _ _ upd_same
            have h82 : (upd (upd (upd G6 p1 (.tup [])) p2 (.tup [])) p (.tup [.int (i : Nat), .ref p1, .ref p2])) p2 = some (.tup []) := (Ex.new (o := .tup [.int (i : Nat), .ref p1, .ref p2]) hp) _ _ upd_same
            have h83 : (upd (upd (upd G6 p1 (.tup [])) p2 (.tup [])) p (.tup [.int (i : Nat), .ref p1, .ref p2])) p = some (.tup [.int (i : Nat), .ref p1, .ref p2]) := upd_same
            generalize upd (upd (upd G6 p1 (.tup [])) p2 (.tup [])) p (.tup [.int (i : Nat), .ref p1, .ref p2]) = G8 at e8 h81 h82 h83 ⊢
            have hD8 := e8 _ _ (xa5 _ _ nDa hD4)
            have K9 : Kt G8 (upd G8 Dl (.lst (ys ++ [.ref p]))) := Kt.exa hD8 Exa.upd
            refine ⟨ys, hD8, sz_lt (by omega), fs ++ [i], ys ++ [.ref p], upd_same, (((hF4.imp fun _ _ k => (k.kt K5).kt (Kt.of e8))).app ⟨p, p1, p2, rfl, h83, h81, h82⟩).imp fun _ _ k => k.kt K9, fun x hx => ?_, List.pairwise_append.mpr ⟨f2, List.pairwise_singleton _ _, fun x hx y hy => ?_⟩, by rw [List.length_append]; show fs.length + 1 ≤ _; omega, fun b o nb hb => ?_, ?_⟩
            · rcases List.mem_append.mp hx with hx | hx
              · have := f1 x hx
                omega
              · obtain rfl := List.mem_singleton.mp hx
                omega
            · obtain rfl := List.mem_singleton.mp hy
              exact f1 x hx
            · rw [upd_ne (ne_of_none hb hD)]
              exact e8 _ _ ((xa4.trans xa5) b o nb hb)
            · obtain ⟨y, c, z1, z2, z3⟩ := w5.ex e8
              exact ⟨y, c, by rw [upd_ne nDa.symm]; exact z1, z2, by omega⟩
          · rw [if_neg (fun z => e (of_decide_eq_true z))]
            exact ⟨fs, ys, xa5 _ _ nDa hD4, hF4.imp fun _ _ k => k.kt K5, fun x hx => Nat.lt_succ_of_lt (f1 x hx), f2, by omega, xa4.trans xa5, w5.le (by omega)⟩
        · obtain ⟨fs, ys, hD4, hF4, f1, f2, f3, xa4, w4⟩ := p
          have ly := hF4.len
          have K4 : Kt G2 G4 := (Kt.of x3).trans (sq_tup w3 xa4)
          have xa24 : Exa a G2 G4 := (Exa.of x3).trans xa4
          have xa4H := xa2H.trans xa24
          have hr4 := xa24 _ _ nra hr2
          have hs4 := xa24 _ _ nsa hs2
          have hk4 := xa24 _ _ nta hk2
          have hI4 : All2 (InsAt a G4) vs rs := hI2.imp fun _ _ k => k.kp (Kp.exa xa24)
          have hh4 : All2 (HdAt G4) us hs := hh2.imp fun _ _ k => k.kt K4
          subst hl
          refine rd_ret (rd_tup (rd_cons (rd_mk (rd_cons (dr_draw (ev_var rfl) ev_c (by decide) (by decide) w4 (by omega) fun st G5 st0 st1 xa5 w5 => rd_cons (rd_c (rd_cons (rd_ev (ev_var rfl) fun G6 x6 => rd_cons (rd_ev (ev_var rfl) fun G7 x7 => rd_cons (rd_ev (ev_var rfl) fun G8 x8 => rd_nil fun x dx hx hdx _ => ?_))))))))))
          obtain ⟨st, rfl⟩ := Int.eq_ofNat_of_zero_le st0
          have x58 := (x6.trans x7).trans x8
          have xa48 := xa5.trans (Exa.of x58)
          have K8 := (sq_tup w4 xa5).trans (Kt.of x58)
          have w8 := w5.ex x58
          have ok : CodeOk ⟨st, rs, hs, fs⟩ := ⟨by show st ≤ 255; omega, mny1, by show rs.length ≤ 1000; omega, ok1, okh, by show hs.length ≤ 1000; omega, f1, f2, by show fs.length ≤ 1000; omega⟩
          have al8 : G8 a ≠ none := fun z => by
            obtain ⟨y, c, k, _⟩ := w8
            rw [k] at z
            cases z
          refine make_code (C := ⟨st, rs, hs, fs⟩) hx hdx ⟨rp, tk, Dl, vs, us, ys, rfl, .inl (xa48 _ _ nra hr4), hI4.imp fun _ _ k => k.kp (Kp.exa xa48), .inl (xa48 _ _ nta hk4), hh4.imp fun _ _ k => k.kt K8, .inl (xa48 _ _ nDa hD4), hF4.imp fun _ _ k => k.kt K8⟩ ok al8 fun G9 x9 hC => ?_
          have hs9 := x9 _ _ (xa48 _ _ nsa hs4)
          have w9 := w8.ex x9
          have xa9 := (xa4H.trans xa48).trans (Exa.of x9)
          refine rd_cons (rd_cb (rd_cons (rd_cb (rd_cons (rd_ev (ev_var rfl) fun G10 x10 => rd_nil ⟨sp, ls, rfl, sq_of (x10 _ _ hs9), (by show ls.length + 1 < 4096; omega), fun sa c hsa hc => rd_nil ⟨sa, _, c, rfl, upd_same, sz_of (by omega), fun ds pd asc hmem hlen hpd => rd_nil ⟨by show 2 ≤ sizeLine; decide, fun t ht => ?_⟩⟩⟩)))))
          have e11 := x10.trans (Ex.new (o := SetO w sa (fun j => decide (j ∈ ls)) c) hsa)
          have e12 := e11.trans (Ex.new (o := .lst (ds.map V.int)) hpd)
          have e13 := e12.trans (Ex.new (o := .tup [.ref x, .ref pd]) ht)
          refine q t x pd ⟨st, rs, hs, fs⟩ ds _ (xa9.trans (Exa.of e13)) ((w9.ex e13).le (by omega)) upd_same (hC.ex e13) ok (Ex.new ht _ _ upd_same) (by omega) (xa9.none w9 (fresh_back e11 hpd)) ((xa4H.trans xa48).none w8 hx) asc fun k => ?_
          rw [hmem k]
          show decide (k ∈ ls) = true ↔ _
          rw [decide_eq_true_iff, ml k, mk k]
          constructor
          · rintro (h | h)
            · exact .inr h
            · exact .inl h
          · rintro (h | h)
            · exact .inr h
            · exact .inl h
end
end N8

set_option maxHeartbeats 4000000
set_option autoImplicit false
namespace N8
open PySem PySem.Spec PyProof.Rows L2 Evl LD LamX
open SX (S)
abbrev sLawSaid : Stmt := topS 81
theorem scLawSaid : FnScope ["question"] ["question"] (L2.defScope sLawSaid) := ⟨rfl, rfl, rfl, by decide +kernel, rfl, by decide +kernel, by decide +kernel⟩

section
variable {X : Cx} {C : Addr} {bmB : List Value} {B newId initId : String}
theorem pmk_own0 {x : Str} {p pos : Pos} (F : ExcBaseFacts B newId initId bmB) (q : PySem.W.excIn X.K C bmB newId = true) (gC : X.mg x = some (.ref C)) (kC : PySem.W.keepIn X.K (.ref C) = true) (r : Raises X (.ref C)) (hg : Gl X x)
    (hdb : (x == ("__debug__" : Str)) = false := by decide) : PMk X (.Call (.Name x p) [] [] pos) (fun _ H Q => Q (.ref C) none H) := by
  intro pins s σ H Q I h
  refine wpAny_Call_Name_kw (ld_glob I hg gC ?_ hdb)
  refine PySem.W.callWith_K0 I.kIn kC ?_
  show wpAny _ _ (call (.ref C) []) _ _ _
  obtain ⟨bm, N, nm, qn, bs, hdct, sn, sub, ab, col, dd, k0, k1, k2, k3, k5, mN, hC, hN, hni, T⟩ := exc_obj I.kIn q
  refine wpAny_call_exc_subT F T hC hN hni (fun h' e hm => ?_) (Nat.zero_le _)
  exact mk_of I hm r h (I.hok.gone hm.new)
end

structure ErrC (K : PySem.W.Frag) (mg : Str → Option Value) (x : Str) (C : Addr) : Prop where
  gC : mg x = some (.ref C)
  xP : PySem.W.excIn K C He.veBase "ValueError.__new__" = true
  kC : PySem.W.keepIn K (.ref C) = true
  bP : PySem.W.subIn K (.ref C) (.type "BaseException") = some true
  tP : PySem.W.typeIn K (.ref C) = some (.type "type")
  eP : PySem.W.exmOne K (.ref C) (.ref C) = some true
section
variable {P : Program} {w : World} {K : PySem.W.Frag} {mg : Str → Option Value} {base : Heap} {CB CT : Addr}
theorem okC {CX : CXT} {x qual : Str} {params : Arguments} {body : List Stmt} {scope : Scope} {dvs : List V} {kws : List (Str × V)} {f c : Addr} {fd : FuncData} {N ps : List Str} {k : Nat} {sp : Sp} (F : FunD K x qual params body scope dvs kws f fd) (hc : fd.code = .ref c) (Sc : FnScope N ps scope)
    (len : ∀ vs H Q E, sp vs H Q E → vs.length = ps.length)
    (hbody : ∀ (A : Around) (outer : List Env) (s : Shared) (H : Hp) (vs : List V) (Q : VK) (E : XK), Room k (A.deeper (envOfC qual scope s.heap.objs.size f (.ref c))) → sp vs H Q E →
      ∃ t, PSs (cxOf CX P w K mg base N qual scope f (.ref c) A outer s H E) body t ∧ t { nx := fun _ H' => Q .non H', rt := Q } (start N vs) H) : FnOk P w K mg base CX (k + 1) f fd ps sp := by
  obtain ⟨oc, od, dV, kV, doc, pm, an, cdv, ct, osl, rfl, lk, hcd, _, _⟩ := F.ex
  obtain rfl : cdv = .ref c := hc
  exact fn_of lk hcd Sc len fun A outer s H vs Q E hr hsp => hbody A outer s H vs Q E hr hsp
end
def ExaN (a : Addr) (H H' : Hp) : Prop := ∀ b o, b ≠ a → H b = some o → (∀ ps, o ≠ .tbl ps) → H' b = some o
theorem ExaN.of {a : Addr} {H H' : Hp} (e : Exa a H H') : ExaN a H H' := fun b o n h _ => e b o n h
theorem ExaN.ofN {a : Addr} {H H' : Hp} (e : ExtN H H') : ExaN a H H' := fun b o _ h t => e b o h t
theorem ExaN.trans {a : Addr} {H H1 H2 : Hp} (x : ExaN a H H1) (y : ExaN a H1 H2) : ExaN a H H2 := fun b o n h t => y b o n (x b o n h t) t
theorem WellAt.exN {H H' : Hp} {a : Addr} {n : Nat} (e : ExtN H H') (h : WellAt H a n) : WellAt H' a n := by
  obtain ⟨x, c, h1, h2⟩ := h
  exact ⟨x, c, e _ _ h1 (fun ps z => by cases z), h2⟩
theorem Tabs.exa {T : List (Addr × Str)} {a : Addr} {n : Nat} {H H' : Hp} (hT : Tabs T H) (hw : WellAt H a n) (e : Exa a H H') : Tabs T H' := fun p hp => by
  obtain ⟨x, c, hx, _⟩ := hw
  obtain ⟨ps, h1, h2, h3⟩ := hT p hp
  refine ⟨ps, e _ _ (fun z => by rw [z, hx] at h1; cases h1) h1, h2, fun pos cv hc => ?_⟩
  obtain ⟨c', e1, e2⟩ := h3 pos cv hc
  exact ⟨c', e1, e _ _ (fun z => by
    rw [z, hx] at e2
    unfold CodeO at e2
    cases e2) e2⟩
theorem lst_tbl {xs : List V} : ∀ ps, HO.lst xs ≠ .tbl ps := fun ps z => by cases z
theorem bindL0 {q : Str} {body : Expr} {scope : Scope} : BindL q ⟨[], [], none, [], [], none, []⟩ body scope [] [] := .inl ⟨rfl, rfl, fun _ _ _ _ _ => rfl⟩

/-! ### what is no code -/
def NotCode (K : PySem.W.Frag) (H : Hp) (x : V) : Prop := ∃ t, TyX K H x t ∧ PySem.W.kitOne K t (.ref (cl K "Code")) = some false
theorem NotCode.ex {K : PySem.W.Frag} {H H' : Hp} {x : V} (h : NotCode K H x) (e : Ex H H') : NotCode K H' x := by
  obtain ⟨t, a, b⟩ := h
  exact ⟨t, TyX.ex e a, b⟩
def spNeededX (K : PySem.W.Frag) (CN : Addr) : Sp := fun vs H Q E => ∃ x, vs = [x] ∧ NotCode K H x ∧ ∀ H', Ex H H' → E (.ref CN) none H'
section
variable {P : Program} {w : World} {K : PySem.W.Frag} {mg : Str → Option Value} {base : Heap} {CN : Addr}
theorem ok_neededX {f : Addr} {fd : FuncData} (F : FnP K "needed" sNeeded f fd) (B : Bt mg) (ci : CoI K mg) (NC : ErrC K mg "NoCode" CN) : FnOk P w K mg base (L2.CX P w) 15 f fd ["code"] (spNeededX K CN) := by
  have g_Code := ci.g
  refine F.ok scNeeded (fun vs H Q E h => ?_) (fun cdv A outer s H vs Q E hr h => ?_)
  · obtain ⟨x, rfl, _⟩ := h
    rfl
  · obtain ⟨x, rfl, ⟨t, hx, hk⟩, q⟩ := h
    refine ⟨_, pss_cons (ps_if (PW.pt (pw_or (pt_not (pt_val (pe_callB call_isi (by rfl) B.isi (by decide +kernel) (pa_cons (pv 0) (pa_cons (pe_glob (v := .ref (cl K "Code")) (by rfl) g_Code rfl) pa_nil))))) (pw_or1 (pt_not (pt_val pe_never))))) (pss_one (ps_raise rfl (takes_of rfl rfl rfl rfl) (pmk_own0 PySem.F.excBase_ValueError NC.xP NC.gC NC.kC (raises_own NC.bP NC.tP) (by rfl)))) pss_nil) pss_never, ?_⟩
    refine q_when (b := true) (et_is (et_or (a := true) (b := false) (et_is (et_not (a := false) (et_test fun H1 e Q' q' => ⟨x, rfl, x, .ref _, t, .ref _, false, rfl, .own _, TyX.ex e hx, hk, q' H1 (Ex.refl H1)⟩)) rfl) fun e => by cases e) rfl) (fun _ H1 x1 => ?_) (fun e => by cases e)
    exact q H1 x1
end
/-- what _law_said makes of what it calls -/
def TTn (CN : Addr) : (XK → Hp → VK → Prop) → Hp → VK → Prop := fun tl H Q => tl (fun cls d H' => d = none ∧ cls = .ref CN ∧ Q (.bl true) H') H (fun _ H' => Q (.bl false) H')
theorem said_gives {X : Cx} {A0 : Around} {stk : List Env} {g CN : Addr} {cdg : Value} (NC : ErrC X.K X.mg "NoCode" CN) : GivesK X A0 stk ["question"] "_law_said" (L2.defScope sLawSaid) g cdg (L2.defBody sLawSaid) "question" (TTn CN) := by
  intro f M s H Q tl act hM hT
  refine ⟨_, pss_cons (ps_try_mix (X := (cxOf L2.CX0 X.prog X.w X.K X.mg X.base ["question"] "_law_said" (L2.defScope sLawSaid) g cdg A0 stk s H L2.E0).nox) (Wout := fun _ _ _ _ => False)
      (tb := fun W D σ H => ∃ Ech : XK, (∀ cls d σ' H', σ'.length = 1 → Ech cls d H' → W cls d σ' H') ∧ σ[0]? = some (some (.ref f)) ∧ M H ∧ tl Ech H (fun _ H1 => D.nx σ H1))
      rfl rfl scLawSaid.nd L2.takes0 (fun W pn xe tk _ => ?_)
      (.cons (o := none) (ts := fun _ _ _ => tRet (tC (.bl true))) ⟨rfl, by decide, Or.inl NC.gC⟩ True.intro (fun a oe cls d pn hz hf => pss_one (ps_ret (by exact pe_bl))) .nil)) (pss_one (ps_ret pe_bl)), ?_⟩
  · refine ⟨fun pins s' σ H' D I h' => ?_⟩
    obtain ⟨Ech, hW, h1, h2, h3⟩ := h'
    have hp := act W pn xe Ech
    exact (pss_one (ps_expr (hp _ _ tk hW))).run pins s' σ H' D I ⟨h1, h2, h3⟩
  · refine rd_seq ⟨_, ?_, rfl, hM, hT⟩
    rintro cls d σ' H' hlen ⟨rfl, rfl, q⟩
    exact ⟨true, NC.eP, fun _ a ha => q, fun e => by cases e⟩
theorem taker_of {X : Cx} {A0 : Around} {stk : List Env} {g CN : Addr} {fds : FuncData} (F : FnP X.K "_law_said" sLawSaid g fds) (hm : X.mg "_law_said" = some (.ref g)) (hb : Binds X.K fds ["question"] []) (NC : ErrC X.K X.mg "NoCode" CN) : Taker X A0 stk "_law_said" g (TTn CN) := by
  have kp := F.kp
  obtain ⟨oc, od, dV, kV, doc, pm, an, cdv, ct, osl, rfl, lk, hcd, _, _⟩ := F.ex
  exact ⟨hm, kp, _, _, _, dV, kV, doc, pm, cdv, ct, oc, an, od, osl, ["question"], "question", lk, hcd, hb, scLawSaid, rfl, .inl rfl, by decide, by decide, said_gives NC⟩
/-- _law_said, as it stands -/
structure SaidN (K : PySem.W.Frag) (mg : Str → Option Value) (CN : Addr) : Prop where
  ex : ∃ (g : Addr) (fds : FuncData), FnP K "_law_said" sLawSaid g fds ∧ mg "_law_said" = some (.ref g) ∧ Binds K fds ["question"] []
  NC : ErrC K mg "NoCode" CN
end N8

set_option maxHeartbeats 4000000
set_option autoImplicit false
namespace N8
open PySem PySem.Spec PyProof.Rows L2 Evl LD LamX
open SX (S)
abbrev sLaw : Stmt := topS 82
theorem scLaw : FnScope ["script", "cell", "well", "time_at", "code", "due", "spots", "own", "odd"] ["script"] (L2.defScope sLaw) := ⟨rfl, rfl, rfl, by decide +kernel, rfl, by decide +kernel, by decide +kernel⟩

structure MkCF (P : Program) (w : World) (K : PySem.W.Frag) (mg : Str → Option Value) (base : Heap) : Prop where
  m : mg "ClassFile" = some (.ref (cl K "ClassFile"))
  ex : ∃ (f : Addr) (fd : FuncData), Mk K (cl K "ClassFile") f ∧ FnOk P w K mg base L2.CX0 10 f fd ["self", "name", "parent", "interfaces", "flags", "fields", "methods"] (spCFI K) ∧ Binds K fd ["self", "name", "parent", "interfaces", "flags", "fields", "methods"] []
theorem MkCF.pe {X : Cx} {j : Nat} {e : Expr} {es : List Expr} {ta : TA} {p pos : Pos} (M : MkCF X.prog X.w X.K X.mg X.base) (hr : Room j X.A) (hk : 11 ≤ j) (hg : Gl X "ClassFile") (ha : PA X (e :: es) ta)
    (he : starEach (e :: es) X.env = (false, eval e X.env) :: starEach es X.env := by rfl) (hpl : (backTo pos (starEach es X.env)).any (·.1) = false := by rfl) :
    PE X (.Call (.Name "ClassFile" p) (e :: es) [] pos) (tMake (cl X.K "ClassFile") (spCFI X.K) [] L2.E0 ta) := by
  obtain ⟨f, fd, mk, F, b⟩ := M.ex
  exact pe_make mk F (hr.mono hk) hg M.m b .nil L2.pass0 ha (by decide) he hpl
theorem ArgsAt.ex {K : PySem.W.Frag} {H H' : Hp} {d : CD} {vs : List V} (h : ArgsAt K H d vs) (e : Ex H H') : ArgsAt K H' d vs := by
  obtain ⟨pi, pw, pf, pm, xf, xm, h1, h2, h3, h4, h5, h6, h7, h8, h9, h10⟩ := h
  exact ⟨pi, pw, pf, pm, xf, xm, h1, e _ _ h2, e _ _ h3, e _ _ h4, h5.imp fun _ _ k => k.ex e, h6, e _ _ h7, h8.imp fun _ _ k => k.ex e, h9, fun m hm => (h10 m hm).ex e⟩
theorem made_end {K : PySem.W.Frag} {H1 : Hp} {Q : VK} {d : CD} {vs : List V} (hA : ArgsAt K H1 d vs) (ok : CDOk d) (q : ∀ x H2, Ex H1 H2 → H1 x = none → FileAt K H2 x d → Q (.ref x) H2) : ∀ x dx, H1 x = none → H1 dx = none → dx ≠ x →
    spCFI K (.ref x :: (vs ++ [])) (upd (upd H1 dx (.own x)) x (.ins (cl K "ClassFile") dx [])) (fun v H2 => v = .non ∧ Q (.ref x) H2) L2.E0 := by
  intro x dx hx hdx hne
  have e1 : Ex H1 (upd (upd H1 dx (.own x)) x (.ins (cl K "ClassFile") dx [])) := fun b o hb => by rw [upd_ne (ne_of_none hb hx), upd_ne (ne_of_none hb hdx)]; exact hb
  refine ⟨x, dx, d, vs ++ [], rfl, upd_same, by rw [List.append_nil]; exact hA.ex e1, ok, fun H' xa fa => ⟨rfl, q x H' (fun b o hb => ?_) hx fa⟩⟩
  exact xa b o (ne_of_none hb hx) (e1 b o hb)
theorem rd_make {K : PySem.W.Frag} {σ : L2.St} {H : Hp} {ta : TA} {Q : VK} (h : ta σ H fun vs H1 => ∀ x dx, H1 x = none → H1 dx = none → dx ≠ x → spCFI K (.ref x :: (vs ++ [])) (upd (upd H1 dx (.own x)) x (.ins (cl K "ClassFile") dx [])) (fun v H2 => v = .non ∧ Q (.ref x) H2) L2.E0) :
    tMake (cl K "ClassFile") (spCFI K) [] L2.E0 ta σ H Q := h
theorem shaped_of {d : PyData} (h1 : d.canLay0 = true) (h2 : d.depth ≤ 64) : SeqAt.shaped d = true := by
  show (d.canLay0 && decide (d.depth ≤ 64)) = true
  rw [h1, decide_eq_true h2]; rfl

/-! ### lists of numbers compared -/
def dI (l : List Int) : PyData := .list (l.map PyData.int)
theorem dIs_lay : ∀ l : List Int, PyData.canLayAll0 (l.map PyData.int) = true
  | [] => rfl
  | x :: a => by
    have e := dIs_lay a
    simp only [List.map_cons, PyData.canLayAll0, PyData.canLay0, e]
    rfl
theorem dIs_depth : ∀ l : List Int, PyData.depthAll (l.map PyData.int) ≤ 1
  | [] => by simp [PyData.depthAll]
  | x :: a => by
    have e := dIs_depth a
    have e2 : PyData.depth (.int x) ≤ 1 := by simp [PyData.depth]
    simp only [List.map_cons, PyData.depthAll]
    omega
theorem dI_lay (l : List Int) : (dI l).canLay0 = true := by
  simp only [dI, PyData.canLay0]
  exact dIs_lay l
theorem dI_shaped (l : List Int) : SeqAt.shaped (dI l) = true := shaped_of (dI_lay l) (by
  have e := dIs_depth l
  simp only [dI, PyData.depth]
  omega)
section
variable {K : PySem.W.Frag} {σ : L2.St} {H H' : Hp} {te ta tb tl : TE} {t : TT} {v x : V} {D : Ends} {tz tu : TS} {Q : VK}
theorem dIs_dp : ∀ l : List Int, DpAll K H (l.map V.int) (l.map PyData.int)
  | [] => .nil
  | x :: a => .cons (.int x) (dIs_dp a)
theorem rv_neSame {p q : Addr} {l : List Int} (hp : H p = some (.lst (l.map V.int))) (hq : H q = some (.lst (l.map V.int))) : RV (rNeD K) (.ref p) (.ref q) H (.bl false) := fun H2 e2 Q k =>
  ⟨dI l, dI l, .lst (sq_of (e2 _ _ hp)) (dIs_dp l), .lst (sq_of (e2 _ _ hq)) (dIs_dp l), dI_shaped l, dI_shaped l, by rw [SeqAt.eqv_refl _ (dI_lay l)]; exact k H2 (Ex.refl H2)⟩
end
theorem asc_ext : ∀ {a b : List Int}, a.Pairwise (· < ·) → b.Pairwise (· < ·) → (∀ k, k ∈ a ↔ k ∈ b) → a = b
  | [], [], _, _, _ => rfl
  | [], y :: b, _, _, h => absurd ((h y).mpr List.mem_cons_self) (by simp)
  | x :: a, [], _, _, h => absurd ((h x).mp List.mem_cons_self) (by simp)
  | x :: a, y :: b, h1, h2, h => by
    obtain ⟨p1, q1⟩ := List.pairwise_cons.mp h1
    obtain ⟨p2, q2⟩ := List.pairwise_cons.mp h2
    have e : x = y := by
      rcases List.mem_cons.mp ((h x).mp List.mem_cons_self) with e | e
      · exact e
      · rcases List.mem_cons.mp ((h y).mpr List.mem_cons_self) with e' | e'
        · exact e'.symm
        · have := p2 x e
          have := p1 y e'
          omega
    subst e
    rw [asc_ext q1 q2 fun k => ?_]
    constructor
    · intro hk
      rcases List.mem_cons.mp ((h k).mp (List.mem_cons_of_mem _ hk)) with e | e
      · have := p1 k hk
        omega
      · exact e
    · intro hk
      rcases List.mem_cons.mp ((h k).mpr (List.mem_cons_of_mem _ hk)) with e | e
      · have := p2 k hk
        omega
      · exact e
/-! ### odd things -/
structure KCo (K : PySem.W.Frag) : Prop where
  t : ∀ T ∈ (["NoneType", "int", "list", "tuple", "str", "dict", "bool"] : List String), PySem.W.kitOne K (.type T) (.ref (cl K "Code")) = some false
  c : PySem.W.kitOne K (.ref (cl K "ClassFile")) (.ref (cl K "Code")) = some false
  i : C8.InsC K (cl K "ClassFile")
inductive OddAt (K : PySem.W.Frag) (H : Hp) : V → Prop where
  | non : OddAt K H .non
  | int (i : Int) : OddAt K H (.int i)
  | bl (b : Bool) : OddAt K H (.bl b)
  | str (z : Str) : OddAt K H (.str z)
  | lst {a : Addr} {xs : List V} (h : H a = some (.lst xs)) : OddAt K H (.ref a)
  | tup {a : Addr} {xs : List V} (h : H a = some (.tup xs)) : OddAt K H (.ref a)
  | dK {a : Addr} {kvs : List (Key × V)} (h : H a = some (.dK kvs)) : OddAt K H (.ref a)
  | ins {a dx : Addr} {fs : List (Str × V)} (h : H a = some (.ins (cl K "ClassFile") dx fs)) : OddAt K H (.ref a)
theorem OddAt.exN {K : PySem.W.Frag} {H H' : Hp} {v : V} (h : OddAt K H v) (e : ExtN H H') : OddAt K H' v := by
  cases h with
  | non => exact .non
  | int i => exact .int i
  | bl b => exact .bl b
  | str z => exact .str z
  | lst h => exact .lst (e _ _ h fun _ z => by cases z)
  | tup h => exact .tup (e _ _ h fun _ z => by cases z)
  | dK h => exact .dK (e _ _ h fun _ z => by cases z)
  | ins h => exact .ins (e _ _ h fun _ z => by cases z)
theorem OddAt.no {K : PySem.W.Frag} {H : Hp} {v : V} (k : KCo K) (h : OddAt K H v) : NotCode K H v := by
  cases h with
  | non => exact ⟨_, .base .non, k.t "NoneType" (by decide)⟩
  | int i => exact ⟨_, .base (.int i), k.t "int" (by decide)⟩
  | bl b => exact ⟨_, .base (.bl b), k.t "bool" (by decide)⟩
  | str z => exact ⟨_, .base (.str z), k.t "str" (by decide)⟩
  | lst h => exact ⟨_, .base (.lst h), k.t "list" (by decide)⟩
  | tup h => exact ⟨_, .base (.tup h), k.t "tuple" (by decide)⟩
  | dK h => exact ⟨_, .base (.dK h), k.t "dict" (by decide)⟩
  | ins h => exact ⟨_, .base (TyOf.ins h k.i.cl k.i.ha k.i.hn k.i.htk k.i.hm), k.c⟩
end N8

set_option maxHeartbeats 4000000
set_option autoImplicit false
namespace N8
open PySem PySem.Spec PyProof.Rows L2 Evl LD LamX
open SX (S)
theorem relabel_cell {sc : Scope} {env : Env} {x : Str} (h : sc.names.lookup x = some .cell) : (relabel sc env).names.lookup x = some .cell := by
  show (sc.names.map fun (n, k) => if (k == NameKind.free && env.scope.kind == .function && env.kindOf n == some .cell) = true then (n, NameKind.cell) else (n, k)).lookup x = some .cell
  generalize sc.names = l at h ⊢
  induction l with
  | nil => cases h
  | cons y r ih =>
    obtain ⟨n, k⟩ := y
    have e1 : ∀ m : NameKind, (List.lookup x ((n, m) :: r.map fun (n, k) => if (k == NameKind.free && env.scope.kind == .function && env.kindOf n == some .cell) = true then (n, NameKind.cell) else (n, k))) = match x == n with | true => some m | false => (r.map fun (n, k) => if (k == NameKind.free && env.scope.kind == .function && env.kindOf n == some .cell) = true then (n, NameKind.cell) else (n, k)).lookup x := fun m => rfl
    have h' : (match x == n with | true => some k | false => r.lookup x) = some .cell := h
    have e2 : (List.map (fun (n, k) => if (k == NameKind.free && env.scope.kind == .function && env.kindOf n == some .cell) = true then (n, NameKind.cell) else (n, k)) ((n, k) :: r)) = (n, if (k == NameKind.free && env.scope.kind == .function && env.kindOf n == some .cell) = true then NameKind.cell else k) :: r.map fun (n, k) => if (k == NameKind.free && env.scope.kind == .function && env.kindOf n == some .cell) = true then (n, NameKind.cell) else (n, k) := by
      rw [List.map_cons]
      congr 1
      dsimp only
      split <;> rfl
    rw [e2, e1]
    cases q : x == n with
    | true =>
      rw [q] at h'
      obtain rfl : k = .cell := Option.some.inj h'
      exact congrArg some (by split <;> rfl)
    | false =>
      rw [q] at h'
      exact ih h'
theorem lamR {N : List Str} {sc scope : Scope} {ps : List Str} {env : Env} (h : lamNB N sc scope ps = true) (hc : (scope.names.all fun y => !decide (y.2 = .free) || decide (sc.names.lookup y.1 = some .cell)) = true) : LamN N (relabel sc env) scope ps := by
  have L := lamN_by h
  refine ⟨L.kind, L.co, L.gen, L.cell, L.own, fun y hy e => .inl (relabel_cell ?_), L.par⟩
  have := List.all_eq_true.mp hc y hy
  rw [decide_eq_true e] at this
  simpa using this
theorem CodeAt.exl {K : PySem.W.Frag} {a x s : Addr} {l : List V} {H H' : Hp} {C : CodeS} (hs : H s = some (.lst l)) (e : Exa s H H') (h : CodeAt K a H x C) : CodeAt K a H' x C := by
  obtain ⟨dx, fs, h1, h2⟩ := h
  exact ⟨dx, fs, e _ _ (fun z => by rw [z, hs] at h1; cases h1) h1, h2.kt (Kt.exa hs e)⟩
theorem lc_raw {K : PySem.W.Frag} {σ : L2.St} {H : Hp} {tl te : TE} {g : TG} {tt : TT} {vs : List Nat} {Q : VK} (h : tl σ H fun x H1 => ∃ a, x = .ref a ∧ (∃ xs, SqL K H1 a xs) ∧ ∀ Dl, H1 Dl = none → ∃ W : Nat → Nat → Hp → Prop, (∃ m, W 0 m (upd H1 Dl (.lst []))) ∧ ∀ i m H, W i m H →
      ((Itl K a).stop i H ∧ Q (.ref Dl) H) ∨ ((Itl K a).go i H ∧ ∃ Nx : Hp → Prop, (∀ H', Nx H' → ∃ m', m' < m ∧ W (i + 1) m' H') ∧ ∀ x H', (Itl K a).yld i H x H' → g x (wipe σ vs) H' fun σ2 H2 => wipe σ2 vs = wipe σ vs ∧ tt σ2 H2 fun b H3 =>
        if b = true then te σ2 H3 fun y H4 => ∃ acc, H4 Dl = some (.lst acc) ∧ acc.length < sizeLine ∧ Nx (upd H4 Dl (.lst (acc ++ [y]))) else Nx H3)) : tLc (iList K tl) g tt te vs σ H Q := h
theorem rd_dnew {σ : L2.St} {H : Hp} {Q : VK} (h : ∀ d, H d = none → Q (.ref d) (upd H d (.dK []))) : tDNewK σ H Q := h
def spLaw (K : PySem.W.Frag) (T : List (Addr × Str)) : Sp := fun vs H Q _ => ∃ (a : Addr) (ns : List Int), vs = [.ref a] ∧ SqL K H a (ns.map V.int) ∧ ns.length ≤ 63 ∧ Tabs T H ∧ ∀ H', Q (.bl true) H'
theorem Tabs.lst {T : List (Addr × Str)} {a : Addr} {l : List V} {H H' : Hp} (hT : Tabs T H) (hx : H a = some (.lst l)) (e : Exa a H H') : Tabs T H' := fun p hp => by
  obtain ⟨ps, h1, h2, h3⟩ := hT p hp
  refine ⟨ps, e _ _ (fun z => by rw [z, hx] at h1; cases h1) h1, h2, fun pos cv hc => ?_⟩
  obtain ⟨c', e1, e2⟩ := h3 pos cv hc
  exact ⟨c', e1, e _ _ (fun z => by
    rw [z, hx] at e2
    unfold CodeO at e2
    cases e2) e2⟩
section
variable {P : Program} {w : World} {K : PySem.W.Frag} {mg : Str → Option Value} {base : Heap} {CN c Pt : Addr} {T : List (Addr × Str)}
abbrev XD (P : Program) (w : World) (K : PySem.W.Frag) (mg : Str → Option Value) (base : Heap) (N : List Str) (qual : Str) (sc : Scope) (f c : Addr) (A : Around) (outer : List Env) (s : Shared) (H : Hp) (E : XK) : Cx := (cxOf L2.CX0 P w K mg base N qual sc f (.ref c) A outer s H E).nox
abbrev XB (P : Program) (w : World) (K : PySem.W.Frag) (mg : Str → Option Value) (base : Heap) (N : List Str) (qual : Str) (sc : Scope) (f c : Addr) (A : Around) (outer : List Env) (s : Shared) (H : Hp) (E : XK) (s3 : Shared) (H3 : Hp) (scB : Scope) (cl : List (Str × Addr)) (C : Addr) (fp : List Addr) : Cx :=
  (XD P w K mg base N qual sc f c A outer s H E).blk s3 H3 scB (compEnvC scB cl C (XD P w K mg base N qual sc f c A outer s H E).env) fp
def tSaidN (T : List (Addr × Str)) (CN : Addr) (t : XK → TE) : TE := fun σ H Q => Tabs T H ∧ ∀ H1, ExtN H H1 → Tabs T H1 → TTn CN (fun E H' Q' => t E σ H' Q') H1 Q
section
variable {f : Addr} {N : List Str} {qual : Str} {sc scB : Scope} {A : Around} {outer : List Env} {s s3 : Shared} {H H3 : Hp} {E : XK} {cl : List (Str × Addr)} {C : Addr} {fp : List Addr}
theorem pe_lamB {params : Arguments} {body : Expr} {scope : Scope} {dvs : List V} {t : XK → TE} {p lpos pos : Pos} {j : Nat} (hg : Gl (XB P w K mg base N qual sc f c A outer s H E s3 H3 scB cl C fp) "_law_said") (sd : SaidN K mg CN) (TB : TabB base mg c Pt)
    (hmT : (Pt, (qual ++ ".<locals>.") ++ "<lambda>") ∈ T) (hu : ∀ p ∈ T, p.1 = Pt → p.2 = (qual ++ ".<locals>.") ++ "<lambda>") (hr : Room j (XD P w K mg base N qual sc f c A outer s H E).A) (hj : 17 ≤ j) (hd : Dfl (XB P w K mg base N qual sc f c A outer s H E s3 H3 scB cl C fp) params dvs)
    (D : LamK (XB P w K mg base N qual sc f c A outer s H E s3 H3 scB cl C fp) 15 params body scope dvs t) : PE (XB P w K mg base N qual sc f c A outer s H E s3 H3 scB cl C fp) (.Call (.Name "_law_said" p) [.Lambda params body scope lpos] [] pos) (tSaidN T CN t) := by
  obtain ⟨⟨g, fds, Fs, hms, hbs⟩, NC⟩ := sd
  exact pe_lamK (X := XB P w K mg base N qual sc f c A outer s H E s3 H3 scB cl C fp) (T := T) (k := 15) hg (taker_of (X := XB P w K mg base N qual sc f c A outer s H E s3 H3 scB cl C fp) Fs hms hbs NC) TB rfl hmT hu (hr.mono hj) hd D
/-- lambda: needed(x), x at the slot i -/
theorem lamNeeded {scope : Scope} {i : Nat} {x : Str} {p1 p2 pos : Pos} (x_needed : Cl P w K mg base (L2.CX P w) 15 "needed" ["code"] (spNeededX K CN)) (hN : lamNB N scB scope [] = true) (hc : (scope.names.all fun y => !decide (y.2 = .free) || decide (scB.names.lookup y.1 = some .cell)) = true)
    (hi : N[i]? = some x) (hx : scope.names.lookup x = some .free) (hg : scope.names.lookup ("needed" : Str) = some NameKind.globalImplicit) (d1 : (x == ("__debug__" : Str)) = false) (d2 : (x == ("__classdict__" : Str)) = false) :
    LamK (XB P w K mg base N qual sc f c A outer s H E s3 H3 scB cl C fp) 15 ⟨[], [], none, [], [], none, []⟩ (.Call (.Name "needed" p1) [.Name x p2] [] pos) scope [] (fun E => tCallS (spNeededX K CN) (fun _ => E) (tCons (tVar i) tNil)) := by
  obtain ⟨f1, fd1, F1, m1, k1, b1⟩ := x_needed.ex
  refine ⟨⟨[], lamR hN hc, bindL0⟩, fun A' outer' s' H' E' f' c' hr2 => ?_⟩
  exact pe_callS F1 hr2 (by exact hg) m1 k1 b1 (fun σ => passAt (takes_of rfl rfl rfl rfl) σ) (pa_cons (pv i hi (.inr (.inr hx)) d1 d2) pa_nil)
end
set_option maxHeartbeats 600000 in
theorem ok_law {f : Addr} {fd : FuncData} (F : FnP K "law" sLaw f fd) (hc : fd.code = .ref c) (B : Bt mg) (TB : TabB base mg c Pt) (hmT : (Pt, (("law" : Str) ++ ".<locals>.") ++ "<lambda>") ∈ T) (hu : ∀ p ∈ T, p.1 = Pt → p.2 = (("law" : Str) ++ ".<locals>.") ++ "<lambda>") (sd : SaidN K mg CN) (kc : KCo K) (MF : MkCF P w K mg base)
    (c_law_well : Cl P w K mg base L2.CX0 1 "_law_well" ["cell"] spWell) (c_law_code : Cl P w K mg base L2.CX0 14 "_law_code" ["well"] (spLCode K)) (c_needed : Cl P w K mg base L2.CX0 15 "needed" ["code"] (spNeeded K)) (x_needed : Cl P w K mg base (L2.CX P w) 15 "needed" ["code"] (spNeededX K CN)) : FnOk P w K mg base L2.CX0 18 f fd ["script"] (spLaw K T) := by
  obtain ⟨f1, fd1, F1, m1, k1, b1⟩ := x_needed.ex
  obtain ⟨⟨g, fds, Fs, hms, hbs⟩, NC⟩ := sd
  refine okC F hc scLaw (fun vs H Q E h => ?_) (fun A outer s H vs Q E hr h => ?_)
  · obtain ⟨a, ns, rfl, _⟩ := h
    rfl
  · obtain ⟨sc, ns, rfl, hS, hns, hT, q⟩ := h
    refine ⟨_, PSs.nox (pss_cons (ps_for PassesOwn.never rfl (pi_list (pe_op op_cat (pe_slice sl_list (pv 0) po_none (po_some pe_int)) (pe_lst (pa_cons pe_int pa_nil)))) (pg_name (i := 1) scLaw.nd rfl (.inl rfl)) (pss_cons (ps_set (i := 2) scLaw.nd rfl (.inl rfl) (pe_cl c_law_well hr (by decide) (by rfl) (pa_cons (pv 1) pa_nil)))
      (pss_one (ps_for PassesOwn.never rfl (pi_range1 (by rfl) B.range (pa_cons pe_int pa_nil)) (pg_name (i := 3) scLaw.nd rfl (.inl rfl)) (pss_cons (ps_asg (pe_cl c_law_code hr (by decide) (by rfl) (pa_cons (pv 2) pa_nil)) (pg_tup rfl (pgs_cons (pg_name (i := 4) scLaw.nd rfl (.inl rfl)) (pgs_cons (pg_name (i := 5) scLaw.nd rfl (.inl rfl)) pgs_nil))))
      (pss_cons (ps_set (i := 6) scLaw.nd rfl (.inl rfl) (pe_cl c_needed hr (by decide) (by rfl) (pa_cons (pv 4) pa_nil)))
      (pss_cons (ps_if (PW.pt (pw_or (pt_cmpR (op_neD hr.units) (pv 6) (pv 5) (nomark _)) (pw_or1 (pt_not (pt_val (pe_callB call_isi (by rfl) B.isi (by decide +kernel) (pa_cons (pv 6) (pa_cons (pe_bltn (v := .ty "list") (by rfl) B.list (by decide +kernel) rfl) pa_nil)))))))) (pss_one (ps_ret pe_bl)) pss_nil)
      (pss_cons (ps_expr (pe_bm PySem.F.plainAttrs_list PySem.F.slot_list_append PySem.F.type_list_append mt_append (pv 6) (pa_cons pe_int pa_nil)))
      (pss_one (ps_if (pt_cmpR (op_neD hr.units) (pe_cl c_needed hr (by decide) (by rfl) (pa_cons (pv 4) pa_nil)) (pv 5) (nomark _)) (pss_one (ps_ret pe_bl)) pss_nil))))))))))
      (pss_cons (ps_set (i := 7) scLaw.nd rfl (.inl rfl) (MkCF.pe MF hr (by decide) (by rfl) (pa_cons pe_str (pa_cons pe_str (pa_cons (pe_lst pa_nil) (pa_cons (pe_lst pa_nil) (pa_cons (pe_lst pa_nil) (pa_cons (pe_lst pa_nil) pa_nil))))))))
      (pss_one (ps_ret (pe_cmpR (op_eqD hr.units) (pe_lcT (own := [("odd", 8)]) (g := gName 8) (tt := fun _ => tNot (tTest (tSaidN T CN fun E => tCallS (spNeededX K CN) (fun _ => E) (tCons (tVar 8) tNil)))) (te := fun _ => tVar 8) rfl scLaw.nd (pi_list (pe_lst (pa_cons pe_non (pa_cons pe_int (pa_cons (pe_lst pa_nil) (pa_cons (pe_tup pa_nil) (pa_cons pe_str (pa_cons pe_dnewK (pa_cons pe_bl (pa_cons (pv 7) pa_nil)))))))))) (blkOk_by (N := ["script", "cell", "well", "time_at", "code", "due", "spots", "own", "odd"]) (sc := L2.defScope sLaw) (by decide +kernel))
        (fun _ _ _ _ _ => pg_name (i := 8) scLaw.nd rfl (.inr rfl)) (fun _ _ _ _ _ _ _ _ _ => pv 8)
        (fun pins σ s3 H3 C cl fp I hf => pts_one (pt_not (pt_val (pe_lamB (T := T) (by rfl) ⟨⟨g, fds, Fs, hms, hbs⟩, NC⟩ TB hmT hu hr (by decide) (.inl ⟨rfl, rfl⟩) (lamNeeded (i := 8) x_needed (by decide +kernel) (by decide +kernel) rfl rfl rfl (by decide) (by decide))))))) (pe_lst pa_nil) (nomark _)))))), ?_⟩
    have hcut : (cutV (ns.map V.int) none (some 8)).length ≤ 63 := by
      unfold cutV
      rw [List.length_take, List.length_drop, List.length_map]
      omega
    refine q_forNL (el_cat (el_sl (lo := none) (hi := some 8) (ev_var rfl) eo_none (eo_some ev_c) hS) (fun H1 x1 => el_lst (ea_cons ev_c ea_nil) (by show 1 ≤ 100000; decide)) (by show _ + 1 ≤ 100000; omega))
      (fun p i σ' H' => Tabs T H' ∧ H' p = some (.lst (cutV (ns.map V.int) none (some 8) ++ [.int 0])) ∧ ∃ v1 v2 v3 v4 v5 v6, σ' = [some (.ref sc), v1, v2, v3, v4, v5, v6, none, none])
      (fun p H1 hp x1 h1 => ⟨hT.ext x1, h1, none, none, none, none, none, none, rfl⟩) (fun p i σ' H' hi hP => sq_of hP.2.1) (fun p i x σ' Hs hx hP => ?_) (fun p σ' H' hP => ?_)
    · obtain ⟨TE0, hp, v1, v2, v3, v4, v5, v6, rfl⟩ := hP
      obtain ⟨cell, rfl⟩ : ∃ i : Int, x = .int i := by
        have hm := List.mem_of_getElem? hx
        rcases List.mem_append.mp hm with h | h
        · unfold cutV at h
          obtain ⟨i, _, e⟩ := List.mem_map.mp (List.mem_of_mem_drop (List.mem_of_mem_take h))
          exact ⟨i, e.symm⟩
        · exact ⟨0, List.mem_singleton.mp h⟩
      refine q_asgAny (rd_call (rd_cons (rd_ev (ev_var rfl) fun H1 x1 => rd_nil ⟨cell, rfl, fun a H2 ha x2 w2 => ?_⟩)))
      have x02 : Ex Hs H2 := x1.trans x2
      have hpa : p ≠ a := fun e => by rw [← e, x1 _ _ hp] at ha; cases ha
      refine s_forR1 (n := 4) (ea_cons ev_c ea_nil) (by decide) (fun i σ' H' => Tabs T H' ∧ H' p = some (.lst (cutV (ns.map V.int) none (some 8) ++ [.int 0])) ∧ WellAt H' a (i * 2500) ∧ ∃ v3 v4 v5 v6, σ' = [some (.ref sc), some (.int cell), some (.ref a), v3, v4, v5, v6, none, none])
        (fun H3 x3 => ⟨(TE0.ext x02).ext x3, (x02.trans x3) _ _ hp, (w2.ex x3).le (Nat.zero_le _), v3, v4, v5, v6, rfl⟩) (fun i σ' H' hi hP => ?_) (fun σ' H' hP => ?_)
      · obtain ⟨T1, hp1, w1, v3, v4, v5, v6, rfl⟩ := hP
        refine rd_seq (rd_asg (rd_call (rd_cons (rd_ev (ev_var rfl) fun H4 x4 => rd_nil ⟨a, i * 2500, rfl, w1.ex x4, by omega, fun t x pd C ds H5 xa5 w5 ht hC okC hpd hds _ _ asc hm => tup2 (st_of ht) ?_⟩))))
        have T5 := N8.Tabs.exa (T1.ext x4) (w1.ex x4) xa5
        have hp5 := xa5 _ _ hpa (x4 _ _ hp1)
        have al : ∀ {G : Hp} {m : Nat}, WellAt G a m → G a ≠ none := fun w z => by
          obtain ⟨y, c, k, _⟩ := w
          rw [k] at z
          cases z
        refine q_asgAny (rd_call (rd_cons (rd_ev (ev_var rfl) fun H6 x6 => rd_nil ⟨a, x, C, rfl, hC.ex x6, okC, al (w5.ex x6), fun ls asc2 hm2 p7 H7 hp7 x7 h7 => ?_⟩)))
        obtain rfl : ls = ds := asc_ext asc2 asc fun k => (hm2 k).trans (hm k).symm
        have x57 := x6.trans x7
        refine q_when (b := false) (et_is (et_or (a := false) (b := false) (et_test (ev_op (ev_var rfl) (ev_var rfl) (rv_neSame h7 (x57 _ _ hpd)))) fun _ => et_is (et_not (et_test (ev_isi (b := true) (ev_var rfl) (.base (.lst h7)) (by decide +kernel)))) rfl) rfl) (fun e => by cases e) fun _ H8 x8 => ?_
        refine q_app (x8 _ _ h7) (ev_var rfl) ev_c (by rw [List.length_map]; omega) fun H9 x9 => ?_
        have x59 := (x57.trans x8).trans x9
        have h9 := (x8.trans x9) _ _ h7
        have x69 := (x7.trans x8).trans x9
        have ne7 : ∀ {b : Addr} {o : HO}, H5 b = some o → b ≠ p7 := fun hb => ne_of_none (x6 _ _ hb) hp7
        have T10 := N8.Tabs.lst (T5.ext x59) h9 (Exa.upd (o := .lst (ls.map V.int ++ [V.int 0])))
        have hC10 := (hC.ex x59).exl h9 (Exa.upd (o := .lst (ls.map V.int ++ [V.int 0])))
        have hp10 : (upd H9 p7 (.lst (ls.map V.int ++ [V.int 0]))) p = some (.lst (cutV (ns.map V.int) none (some 8) ++ [.int 0])) := by rw [upd_ne (ne7 hp5)]; exact x59 _ _ hp5
        have hd10 : (upd H9 p7 (.lst (ls.map V.int ++ [V.int 0]))) pd = some (.lst (ls.map V.int)) := by rw [upd_ne (ne7 hpd)]; exact x59 _ _ hpd
        have w10 : WellAt (upd H9 p7 (.lst (ls.map V.int ++ [V.int 0]))) a (i * 2500 + 2500) := by
          obtain ⟨y, c, z1, z2⟩ := w5
          exact ⟨y, c, by rw [upd_ne (ne7 z1)]; exact x59 _ _ z1, z2⟩
        generalize upd H9 p7 (.lst (ls.map V.int ++ [V.int 0])) = H10 at T10 hC10 hp10 hd10 w10 ⊢
        refine s_when (b := false) (et_test (ev_opL1 (xs := ls.map V.int) (fun G1 e1 Q1 q1 => rd_call (rd_cons (rd_ev (ev_var rfl) fun G2 x2 => rd_nil ⟨a, x, C, rfl, hC10.ex (e1.trans x2), okC, al (w10.ex (e1.trans x2)), fun ms asc3 hm3 pp G3 hpp x3 h3 => q1 pp G3 (fresh_back x2 hpp) (x2.trans x3) (by rw [h3, asc_ext asc3 asc fun k => (hm3 k).trans (hm k).symm])⟩))) (fun G1 e1 => ev_var rfl) fun pp G1 h1 e1 => rv_neSame h1 (e1 _ _ hd10))) (fun e => by cases e) fun _ H11 x11 => ⟨T10.ext x11, x11 _ _ hp10, (w10.ex x11).le (by omega), _, _, _, _, rfl⟩
      · obtain ⟨T1, hp1, w1, v3, v4, v5, v6, rfl⟩ := hP
        exact ⟨T1, hp1, _, _, _, _, _, _, rfl⟩
    · obtain ⟨T0, hp, v1, v2, v3, v4, v5, v6, rfl⟩ := hP
      have c1 : ("A" : Str) = S [65] := by decide +kernel
      have c2 : ("Object" : Str) = S [79, 98, 106, 101, 99, 116] := by decide +kernel
      have key : ∀ (Qn : VK), (∀ x H2 dx fs, Ex H' H2 → H2 x = some (.ins (cl K "ClassFile") dx fs) → Qn (.ref x) H2) → tMake (cl K "ClassFile") (spCFI K) [] L2.E0 (tCons (tC (.str "A")) (tCons (tC (.str "Object")) (tCons (tLst tNil) (tCons (tLst tNil) (tCons (tLst tNil) (tCons (tLst tNil) tNil)))))) [some (.ref sc), v1, v2, v3, v4, v5, v6, none, none] H' Qn := fun Qn kn => by
        refine rd_make (rd_cons (rd_c (rd_cons (rd_c (rd_cons (rd_lst (rd_nil ⟨by decide, fun p1 hp1 => rd_cons (rd_lst (rd_nil ⟨by decide, fun p2 hp2 => rd_cons (rd_lst (rd_nil ⟨by decide, fun p3 hp3 => rd_cons (rd_lst (rd_nil ⟨by decide, fun p4 hp4 => rd_nil ?_⟩))⟩))⟩))⟩)))))))
        have e1 := Ex.new (o := .lst []) hp1
        have e2 := Ex.new (o := .lst []) hp2
        have e3 := Ex.new (o := .lst []) hp3
        have e4 := Ex.new (o := .lst []) hp4
        refine made_end (K := K) (Q := Qn) (d := ⟨[65], some [79, 98, 106, 101, 99, 116], [], [], [], []⟩) ⟨p1, p2, p3, p4, [], [], (show [V.str "A", V.str "Object", V.ref p1, V.ref p2, V.ref p3, V.ref p4] = _ by rw [c1, c2]; rfl), ((e2.trans e3).trans e4) _ _ upd_same, (e3.trans e4) _ _ upd_same, e4 _ _ upd_same, .nil, Nat.zero_le _, upd_same, .nil, Nat.zero_le _, fun m hm => by cases hm⟩ ⟨⟨by decide +kernel, by decide⟩, fun l hl => (by obtain rfl := Option.some.inj hl; exact ⟨by decide +kernel, by decide⟩), fun l hl => (by cases hl), ⟨fun x hx => (by cases hx), .nil, Nat.zero_le _⟩, fun m hm => (by cases hm), fun m hm => by cases hm⟩ fun x H2 x2 hx fa => ?_
        obtain ⟨dx, fs, hown, _⟩ := fa
        exact kn x H2 dx fs ((((e1.trans e2).trans e3).trans e4).trans x2) hown
      refine q_asgAny (key _ fun x H2 dx fs x2 hown => ?_)
      have T2 := T0.ext x2
      refine rd_ret (rd_op (lc_raw (rd_lst (rd_cons (rd_c (rd_cons (rd_c (rd_cons (rd_lst (rd_nil ⟨by decide, fun q1 hq1 => rd_cons (rd_tup (rd_nil ⟨by decide, fun q2 hq2 => rd_cons (rd_c (rd_cons (rd_dnew fun q3 hq3 => rd_cons (rd_c (rd_cons (rd_ev (ev_var rfl) fun H3 x3 => rd_nil ⟨by show 8 ≤ sizeLine; decide, fun pl hpl => ⟨pl, rfl, ⟨_, sq_of upd_same⟩, fun Dl hD => ?_⟩⟩))))))⟩))⟩))))))))))
      have y1 := Ex.new (o := .lst []) hq1
      have y2 := Ex.new (o := .tup []) hq2
      have y3 := Ex.new (o := .dK []) hq3
      have y4 := Ex.new (o := .lst [.non, .int 5, .ref q1, .ref q2, .str "code", .ref q3, .bl true, .ref x]) hpl
      have y5 := Ex.new (o := .lst []) hD
      have yall := (((y1.trans y2).trans y3).trans x3).trans (y4.trans y5)
      have odd : ∀ v ∈ ([.non, .int 5, .ref q1, .ref q2, .str "code", .ref q3, .bl true, .ref x] : List V), OddAt K (upd (upd H3 pl (.lst [.non, .int 5, .ref q1, .ref q2, .str "code", .ref q3, .bl true, .ref x])) Dl (.lst [])) v := fun v hv => by
        rcases List.mem_cons.mp hv with rfl | hv
        · exact .non
        rcases List.mem_cons.mp hv with rfl | hv
        · exact .int 5
        rcases List.mem_cons.mp hv with rfl | hv
        · exact .lst ((((y2.trans y3).trans x3).trans (y4.trans y5)) _ _ upd_same)
        rcases List.mem_cons.mp hv with rfl | hv
        · exact .tup (((y3.trans x3).trans (y4.trans y5)) _ _ upd_same)
        rcases List.mem_cons.mp hv with rfl | hv
        · exact .str _
        rcases List.mem_cons.mp hv with rfl | hv
        · exact .dK ((x3.trans (y4.trans y5)) _ _ upd_same)
        rcases List.mem_cons.mp hv with rfl | hv
        · exact .bl true
        · obtain rfl := List.mem_singleton.mp hv
          exact .ins (yall _ _ hown)
      have Tn := T2.ext yall
      have hpl2 : (upd (upd H3 pl (.lst [.non, .int 5, .ref q1, .ref q2, .str "code", .ref q3, .bl true, .ref x])) Dl (.lst [])) pl = some (.lst [.non, .int 5, .ref q1, .ref q2, .str "code", .ref q3, .bl true, .ref x]) := y5 _ _ upd_same
      refine lc_list (xs := [.non, .int 5, .ref q1, .ref q2, .str "code", .ref q3, .bl true, .ref x]) (fun _ G => Tabs T G ∧ (∀ v ∈ ([.non, .int 5, .ref q1, .ref q2, .str "code", .ref q3, .bl true, .ref x] : List V), OddAt K G v) ∧ G Dl = some (.lst []) ∧ G pl = some (.lst [.non, .int 5, .ref q1, .ref q2, .str "code", .ref q3, .bl true, .ref x])) ⟨Tn, odd, upd_same, hpl2⟩ (fun i G _ p => sq_of p.2.2.2) (fun i v G hi p => ?_) fun G p => ?_
      · obtain ⟨TG, oG, dG, lG⟩ := p
        have ov := oG v (List.mem_of_getElem? hi)
        refine ⟨rfl, (show tNot (tTest _) _ _ _ from ⟨TG, fun H5 e5 T5 => ⟨v, rfl, v, rfl, (ov.exN e5).no kc, fun H6 x6 => ⟨rfl, rfl, true, rfl, ?_⟩⟩⟩)⟩
        have e6 : ExtN G H6 := e5.trans (.of x6)
        exact ⟨T5.ext x6, fun u hu => (oG u hu).exN e6, e6 _ _ dG lst_tbl, e6 _ _ lG lst_tbl⟩
      · obtain ⟨TG, oG, dG, lG⟩ := p
        refine rd_lst (rd_nil ⟨by decide, fun r hr => ?_⟩)
        exact ⟨dI [], dI [], .lst (sq_of (Ex.new hr _ _ dG)) .nil, .lst (sq_of upd_same) .nil, dI_shaped [], dI_shaped [], q _⟩
end
end N8

set_option maxHeartbeats 4000000
set_option autoImplicit false
namespace N8
open PySem PySem.Spec PyProof.Rows L2 LD LamX N8H
theorem insB_ok {K : PySem.W.Frag} {C : Addr} (c : Cls K C) (h : insB K C = true) : C8.InsC K C := by
  obtain ⟨h1, h⟩ := He.ba h
  obtain ⟨h2, h⟩ := He.ba h
  obtain ⟨h3, h⟩ := He.ba h
  obtain ⟨h4, h5⟩ := He.ba h
  exact ⟨c, He.eqO_ok h1, He.eqO_ok h2, of_decide_eq_true h3, of_decide_eq_true h4, of_decide_eq_true h5⟩
theorem tups_ok {K : PySem.W.Frag} (h : tupsB K = true) {q : Str × List Str} (hq : q ∈ tupL) (H : Hp) : SqT K H (He.ga K q.1) (q.2.map V.str) := by
  have e := He.tupB_ok (List.all_eq_true.mp h q hq) H
  have e2 : (q.2.map He.Dv.str).map (He.Dv.v K) = q.2.map V.str := by rw [List.map_map]; rfl
  rw [e2] at e
  exact e
theorem code_of {K : PySem.W.Frag} {x : Str} {st : Stmt} {p : Str × Option Str} {fd : FuncData} (F : FnP K x st (He.fAd K p) fd) : fd.code = .ref (He.codeOf K p) := by
  obtain ⟨oc, od, dV, kV, doc, pm, an, cdv, ct, osl, rfl, lk, hcd, hD, hK⟩ := F.ex
  obtain ⟨c, rfl⟩ := He.codeIn_ref hcd
  exact congrArg Value.ref (He.codeOf_eq lk rfl).symm
def TL (K : PySem.W.Frag) : List (Addr × Str) := [((He.cT K ("law", none)).2, (("law" : Str) ++ ".<locals>.") ++ "<lambda>")]
theorem facts {l : PySem.W.OpenLaw} {w : World} {K : PySem.W.Frag} {h : Heap} {mg : Str → Option Value} {f : Addr} (X : K.In h) (G : h.Ns mainGlobals mg) (hfa : mg ("law" : Str) = some (.ref f)) (cX : He.SaysX faL fnL tsL tfL exL w h K) :
    LamX.LawAtS l w K L2.CX0 18 63 "script" mg f h := by
  have cT := cX.t
  have c := cT.d
  obtain ⟨x1, cL⟩ := He.ba cX.more
  obtain ⟨x2, cL⟩ := He.ba cL
  obtain ⟨x3, cL⟩ := He.ba cL
  obtain ⟨x4, cL⟩ := He.ba cL
  obtain ⟨x5, cL⟩ := He.ba cL
  obtain ⟨x6, cL⟩ := He.ba cL
  obtain ⟨x7, x8⟩ := He.ba cL
  obtain ⟨y1, x2⟩ := He.ba x2
  obtain ⟨y2, x2⟩ := He.ba x2
  obtain ⟨y3, y4⟩ := He.ba x2
  obtain ⟨a1, x3⟩ := He.ba x3
  obtain ⟨a2, a3⟩ := He.ba x3
  obtain ⟨k1, k2⟩ := He.ba x4
  obtain ⟨fd0, F0⟩ := c.def_ 0 (d := dIsNameSign) rfl
  obtain ⟨fd1, F1⟩ := c.def_ 1 (d := dIsName) rfl
  obtain ⟨fd2, F2⟩ := c.def_ 2 (d := dIsClassName) rfl
  obtain ⟨fd3, F3⟩ := c.def_ 3 (d := dFieldEnd) rfl
  obtain ⟨fd4, F4⟩ := c.def_ 4 (d := dIsFieldDescriptor) rfl
  obtain ⟨fd5, F5⟩ := c.def_ 5 (d := dPlacesOf) rfl
  obtain ⟨fd6, F6⟩ := c.def_ 6 (d := dMethodParts) rfl
  obtain ⟨fd7, F7⟩ := c.def_ 7 (d := dIsInteger) rfl
  obtain ⟨fd8, F8⟩ := c.def_ 8 (d := dIsRow) rfl
  obtain ⟨fd9, F9⟩ := c.def_ 9 (d := dIsTupleOf) rfl
  obtain ⟨fd10, F10⟩ := c.def_ 10 (d := dIsWithin) rfl
  obtain ⟨fd11, F11⟩ := c.def_ 11 (d := dIsRowOfFlags) rfl
  obtain ⟨fd12, F12⟩ := c.def_ 12 (d := dInOrder) rfl
  obtain ⟨fd13, F13⟩ := c.def_ 13 (d := dIsText) rfl
  obtain ⟨fd14, F14⟩ := c.def_ 14 (d := dIsString) rfl
  obtain ⟨fd15, F15⟩ := c.def_ 15 (d := dIsConstant) rfl
  obtain ⟨fd16, F16⟩ := c.def_ 16 (d := dIsMethodName) rfl
  obtain ⟨fd17, F17⟩ := c.def_ 17 (d := dIsMethodDescriptor) rfl
  obtain ⟨fd18, F18⟩ := c.def_ 18 (d := dIsField) rfl
  obtain ⟨fd19, F19⟩ := c.def_ 19 (d := dIsMethod) rfl
  obtain ⟨fd20, F20⟩ := c.def_ 20 (d := dKeptInterfaces) rfl
  obtain ⟨fd21, F21⟩ := c.def_ 21 (d := dKeptMembers) rfl
  obtain ⟨fd22, F22⟩ := c.def_ 22 (d := dClassFileInit) rfl
  obtain ⟨fd23, F23⟩ := c.def_ 23 (d := dLawWell) rfl
  obtain ⟨fd24, F24⟩ := c.def_ 24 (d := dLawDraw) rfl
  obtain ⟨fd25, F25⟩ := c.def_ 25 (d := dLawOne) rfl
  obtain ⟨fd26, F26⟩ := c.def_ 26 (d := dIsTold) rfl
  obtain ⟨fd27, F27⟩ := c.def_ 27 (d := dHasSort) rfl
  obtain ⟨fd28, F28⟩ := c.def_ 28 (d := dIsPair) rfl
  obtain ⟨fd29, F29⟩ := c.def_ 29 (d := dAgrees) rfl
  obtain ⟨fd30, F30⟩ := c.def_ 30 (d := dIsInstruction) rfl
  obtain ⟨fd31, F31⟩ := c.def_ 31 (d := dAscends) rfl
  obtain ⟨fd32, F32⟩ := c.def_ 32 (d := dHasRightPairs) rfl
  obtain ⟨fd33, F33⟩ := c.def_ 33 (d := dTargets) rfl
  obtain ⟨fd34, F34⟩ := c.def_ 34 (d := dKept) rfl
  obtain ⟨fd35, F35⟩ := c.def_ 35 (d := dKeptRows) rfl
  obtain ⟨fd36, F36⟩ := c.def_ 36 (d := dIsHandler) rfl
  obtain ⟨fd37, F37⟩ := c.def_ 37 (d := dKeptHandlers) rfl
  obtain ⟨fd38, F38⟩ := c.def_ 38 (d := dIsRowOfEntries) rfl
  obtain ⟨fd39, F39⟩ := c.def_ 39 (d := dIsFrame) rfl
  obtain ⟨fd40, F40⟩ := c.def_ 40 (d := dKeptFrames) rfl
  obtain ⟨fd41, F41⟩ := c.def_ 41 (d := dCodeInit) rfl
  obtain ⟨fd42, F42⟩ := c.def_ 42 (d := dIsWhole) rfl
  obtain ⟨fd43, F43⟩ := c.def_ 43 (d := dNeeded) rfl
  obtain ⟨fd44, F44⟩ := c.def_ 44 (d := dLawRow) rfl
  obtain ⟨fd45, F45⟩ := c.def_ 45 (d := dLawCode) rfl
  obtain ⟨fd46, F46⟩ := c.def_ 46 (d := dLaw) rfl
  obtain ⟨fd47, F47⟩ := c.def_ 47 (d := dLawSaid) rfl
  have B : Bt mg := ⟨He.free_ok X G (c.fact 46 (f := .free "isinstance") rfl), He.free_ok X G (c.fact 47 (f := .free "str") rfl), He.free_ok X G (c.fact 48 (f := .free "len") rfl), He.free_ok X G (c.fact 49 (f := .free "all") rfl), He.free_ok X G (c.fact 50 (f := .free "sum") rfl), He.free_ok X G (c.fact 51 (f := .free "int") rfl), He.free_ok X G (c.fact 52 (f := .free "range") rfl), He.free_ok X G (c.fact 53 (f := .free "bool") rfl), He.free_ok X G (c.fact 54 (f := .free "list") rfl), He.free_ok X G (c.fact 55 (f := .free "tuple") rfl), He.free_ok X G (c.fact 56 (f := .free "set") rfl), He.free_ok X G (c.fact 57 (f := .free "ord") rfl), He.free_ok X G (c.fact 58 (f := .free "sorted") rfl), He.free_ok X G (c.fact 59 (f := .free "enumerate") rfl), He.free_ok X G (c.fact 60 (f := .free "any") rfl), He.free_ok X G (c.fact 61 (f := .free "max") rfl), He.free_ok X G (c.fact 62 (f := .free "zip") rfl)⟩
  have g_LONGEST_NAME : ∃ t, mg "LONGEST_NAME" = some (.int 30 t) := He.int_ok X G (c.fact 63 (f := .int "LONGEST_NAME" 30) rfl)
  have g_LONGEST_CLASS_NAME : ∃ t, mg "LONGEST_CLASS_NAME" = some (.int 60 t) := He.int_ok X G (c.fact 64 (f := .int "LONGEST_CLASS_NAME" 60) rfl)
  have g_MOST_BRACKETS : ∃ t, mg "MOST_BRACKETS" = some (.int 5 t) := He.int_ok X G (c.fact 65 (f := .int "MOST_BRACKETS" 5) rfl)
  have g_MOST_PARAMETER_PLACES : ∃ t, mg "MOST_PARAMETER_PLACES" = some (.int 254 t) := He.int_ok X G (c.fact 66 (f := .int "MOST_PARAMETER_PLACES" 254) rfl)
  have g_MOST_PLACES : ∃ t, mg "MOST_PLACES" = some (.int 255 t) := He.int_ok X G (c.fact 67 (f := .int "MOST_PLACES" 255) rfl)
  have g_MOST_ROWS : ∃ t, mg "MOST_ROWS" = some (.int 65535 t) := He.int_ok X G (c.fact 68 (f := .int "MOST_ROWS" 65535) rfl)
  have g_MOST_ENTRIES : ∃ t, mg "MOST_ENTRIES" = some (.int 255 t) := He.int_ok X G (c.fact 69 (f := .int "MOST_ENTRIES" 255) rfl)
  have g_LONGEST_STRING : ∃ t, mg "LONGEST_STRING" = some (.int 200 t) := He.int_ok X G (c.fact 70 (f := .int "LONGEST_STRING" 200) rfl)
  have g_LEAST_LONG : ∃ t, mg "LEAST_LONG" = some (.int (-9223372036854775808) t) := He.int_ok X G (c.fact 71 (f := .int "LEAST_LONG" (-9223372036854775808)) rfl)
  have g_GREATEST_LONG : ∃ t, mg "GREATEST_LONG" = some (.int 9223372036854775807 t) := He.int_ok X G (c.fact 72 (f := .int "GREATEST_LONG" 9223372036854775807) rfl)
  have gSig : ∃ z t, z = SX.S signsL ∧ mg "SIGNS" = some (.str z t) := by
    obtain ⟨t, e⟩ := He.str_ok X G (c.fact 73 (f := .str "SIGNS" (SX.S signsL)) rfl)
    exact ⟨_, t, rfl, e⟩
  have gFlg : Flg K mg := ⟨_, (He.glo_ok X G (c.fact 74 (f := .glo "FLAGS") rfl)), fun H => tups_ok x1 (q := ("FLAGS", flags9)) (by decide +kernel) H⟩
  have gLW : ∃ a, mg "LAST_WORDS" = some (.ref a) ∧ ∀ H, SqT K H a (lastW.map V.str) := ⟨_, (He.glo_ok X G (c.fact 75 (f := .glo "LAST_WORDS") rfl)), fun H => tups_ok x1 (q := ("LAST_WORDS", lastW)) (by decide +kernel) H⟩
  have gLet : Letters K mg := ⟨_, (He.glo_ok X G (c.fact 76 (f := .glo "LETTERS") rfl)), fun H => by
    have e := tups_ok x1 (q := ("LETTERS", ["Z", "B", "S", "C", "I", "J"])) (by decide +kernel) H
    have e2 : (["Z", "B", "S", "C", "I", "J"] : List Str).map V.str = letters.map fun c => V.str (SX.S [c]) := by decide +kernel
    rw [← e2]
    exact e⟩
  have cClassFile : Cls K (cl K "ClassFile") := He.cls_ok (c.fact 84 (f := .cls "ClassFile") rfl)
  have cCode : Cls K (cl K "Code") := He.cls_ok (c.fact 85 (f := .cls "Code") rfl)
  have cUncut : Cls K (cl K "Uncut") := He.cls_ok (c.fact 86 (f := .cls "Uncut") rfl)
  have iCF := insB_ok cClassFile x5
  have iCo := insB_ok cCode x6
  have iUn := insB_ok cUncut x7
  have noCF : ∀ f ∈ (["name", "parent", "interfaces", "flags", "fields", "methods"] : List Str), NoAttr K (cl K "ClassFile") f := fun f hf => by
    rcases List.mem_cons.mp hf with rfl | hf
    · exact (show NoAttr K (cl K "ClassFile") "name" from He.noat_ok (c.fact 87 (f := .noat "ClassFile" "name") rfl))
    rcases List.mem_cons.mp hf with rfl | hf
    · exact (show NoAttr K (cl K "ClassFile") "parent" from He.noat_ok (c.fact 88 (f := .noat "ClassFile" "parent") rfl))
    rcases List.mem_cons.mp hf with rfl | hf
    · exact (show NoAttr K (cl K "ClassFile") "interfaces" from He.noat_ok (c.fact 89 (f := .noat "ClassFile" "interfaces") rfl))
    rcases List.mem_cons.mp hf with rfl | hf
    · exact (show NoAttr K (cl K "ClassFile") "flags" from He.noat_ok (c.fact 90 (f := .noat "ClassFile" "flags") rfl))
    rcases List.mem_cons.mp hf with rfl | hf
    · exact (show NoAttr K (cl K "ClassFile") "fields" from He.noat_ok (c.fact 91 (f := .noat "ClassFile" "fields") rfl))
    rcases List.mem_cons.mp hf with rfl | hf
    · exact (show NoAttr K (cl K "ClassFile") "methods" from He.noat_ok (c.fact 92 (f := .noat "ClassFile" "methods") rfl))
    · cases hf
  have noCo : ∀ f ∈ (["stack", "places", "rows", "handlers", "frames"] : List Str), NoAttr K (cl K "Code") f := fun f hf => by
    rcases List.mem_cons.mp hf with rfl | hf
    · exact (show NoAttr K (cl K "Code") "stack" from He.noat_ok (c.fact 93 (f := .noat "Code" "stack") rfl))
    rcases List.mem_cons.mp hf with rfl | hf
    · exact (show NoAttr K (cl K "Code") "places" from He.noat_ok (c.fact 94 (f := .noat "Code" "places") rfl))
    rcases List.mem_cons.mp hf with rfl | hf
    · exact (show NoAttr K (cl K "Code") "rows" from He.noat_ok (c.fact 95 (f := .noat "Code" "rows") rfl))
    rcases List.mem_cons.mp hf with rfl | hf
    · exact (show NoAttr K (cl K "Code") "handlers" from He.noat_ok (c.fact 96 (f := .noat "Code" "handlers") rfl))
    rcases List.mem_cons.mp hf with rfl | hf
    · exact (show NoAttr K (cl K "Code") "frames" from He.noat_ok (c.fact 97 (f := .noat "Code" "frames") rfl))
    · cases hf
  have cfk : CFK K := ⟨cClassFile, noCF, of_decide_eq_true a1, of_decide_eq_true a2⟩
  have ckk : CKK K := ⟨cCode, noCo⟩
  have coi : CoI K mg := ⟨(He.glo_ok X G (c.fact 80 (f := .glo "Code") rfl)), iCo, iCo.me⟩
  have cu : CU K mg := ⟨(He.glo_ok X G (c.fact 80 (f := .glo "Code") rfl)), (He.glo_ok X G (c.fact 81 (f := .glo "Uncut") rfl)), iCo, iUn, of_decide_eq_true x8⟩
  have kco : KCo K := ⟨fun T hT => of_decide_eq_true (List.all_eq_true.mp k1 T hT), of_decide_eq_true k2, iCF⟩
  have NC : ErrC K mg "NoCode" (He.ga K "NoCode") := by
    obtain ⟨n1, n2, n3, n4⟩ := He.exc_ok (c.fact 100 (f := .exc "NoCode") rfl)
    exact ⟨(He.glo_ok X G (c.fact 83 (f := .glo "NoCode") rfl)), n1, n2, n3, n4, He.exm_ok (c.fact 101 (f := .exm "NoCode" "NoCode" true) rfl)⟩
  have gNF : ∃ C, mg "NoForm" = some (.ref C) := ⟨_, (He.glo_ok X G (c.fact 82 (f := .glo "NoForm") rfl))⟩
  obtain ⟨esA, nA, DA⟩ := cT.tab 0 (t := (fun K => He.ga K "ARGUMENTS", keysA)) rfl
  obtain ⟨esB, nB, DB⟩ := cT.tab 1 (t := (fun K => He.ga K "BOUNDS", keysB)) rfl
  have args : Args3 K w mg := ⟨_, esA, nA, (He.glo_ok X G (c.fact 77 (f := .glo "ARGUMENTS") rfl)), DA, fun q hq => isTup_ok (List.all_eq_true.mp y1 q hq)⟩
  have bnd : Bnds3 K w mg := by
    obtain ⟨t1, e1, h1⟩ := isTup_ok y2
    obtain ⟨t2, e2, h2⟩ := isTup_ok y3
    exact ⟨_, esB, nB, t1, t2, (He.glo_ok X G (c.fact 78 (f := .glo "BOUNDS") rfl)), DB, e1, h1, e2, h2, fun z hz => He.eqO_ok (List.all_eq_true.mp y4 z hz)⟩
  have b0 : Binds K fd0 ["sign"] [] := F0.bindsN fun _ _ _ _ _ _ us hl => match us, hl with | [_], _ => rfl
  have b1 : Binds K fd1 ["thing"] [] := F1.bindsN fun _ _ _ _ _ _ us hl => match us, hl with | [_], _ => rfl
  have b2 : Binds K fd2 ["thing"] [] := F2.bindsN fun _ _ _ _ _ _ us hl => match us, hl with | [_], _ => rfl
  have b3 : Binds K fd3 ["text", "begin"] [] := F3.bindsN fun _ _ _ _ _ _ us hl => match us, hl with | [_, _], _ => rfl
  have b4 : Binds K fd4 ["thing"] [] := F4.bindsN fun _ _ _ _ _ _ us hl => match us, hl with | [_], _ => rfl
  have b5 : Binds K fd5 ["descriptors"] [] := F5.bindsN fun _ _ _ _ _ _ us hl => match us, hl with | [_], _ => rfl
  have b6 : Binds K fd6 ["thing"] [] := F6.bindsN fun _ _ _ _ _ _ us hl => match us, hl with | [_], _ => rfl
  have b7 : Binds K fd7 ["thing"] [] := F7.bindsN fun _ _ _ _ _ _ us hl => match us, hl with | [_], _ => rfl
  have b8 : Binds K fd8 ["thing"] [] := F8.bindsN fun _ _ _ _ _ _ us hl => match us, hl with | [_], _ => rfl
  have b9 : Binds K fd9 ["thing", "many"] [] := F9.bindsN fun _ _ _ _ _ _ us hl => match us, hl with | [_, _], _ => rfl
  have b10 : Binds K fd10 ["thing", "low", "high"] [] := F10.bindsN fun _ _ _ _ _ _ us hl => match us, hl with | [_, _, _], _ => rfl
  have b11 : Binds K fd11 ["thing"] [] := F11.bindsN fun _ _ _ _ _ _ us hl => match us, hl with | [_], _ => rfl
  have b12 : Binds K fd12 ["flags"] [] := F12.bindsN fun _ _ _ _ _ _ us hl => match us, hl with | [_], _ => rfl
  have b13 : Binds K fd13 ["thing"] [] := F13.bindsN fun _ _ _ _ _ _ us hl => match us, hl with | [_], _ => rfl
  have b14 : Binds K fd14 ["thing"] [] := F14.bindsN fun _ _ _ _ _ _ us hl => match us, hl with | [_], _ => rfl
  have b15 : Binds K fd15 ["thing"] [] := F15.bindsN fun _ _ _ _ _ _ us hl => match us, hl with | [_], _ => rfl
  have b16 : Binds K fd16 ["thing"] [] := F16.bindsN fun _ _ _ _ _ _ us hl => match us, hl with | [_], _ => rfl
  have b17 : Binds K fd17 ["thing"] [] := F17.bindsN fun _ _ _ _ _ _ us hl => match us, hl with | [_], _ => rfl
  have b18 : Binds K fd18 ["member"] [] := F18.bindsN fun _ _ _ _ _ _ us hl => match us, hl with | [_], _ => rfl
  have b19 : Binds K fd19 ["member"] [] := F19.bindsN fun _ _ _ _ _ _ us hl => match us, hl with | [_], _ => rfl
  have b20 : Binds K fd20 ["interfaces"] [] := F20.bindsN fun _ _ _ _ _ _ us hl => match us, hl with | [_], _ => rfl
  have b21 : Binds K fd21 ["members", "word", "is_member"] [] := F21.bindsN fun _ _ _ _ _ _ us hl => match us, hl with | [_, _, _], _ => rfl
  have b22 : Binds K fd22 ["self", "name", "parent", "interfaces", "flags", "fields", "methods"] [] := F22.bindsN fun _ _ _ _ _ _ us hl => match us, hl with | [_, _, _, _, _, _, _], _ => rfl
  have b23 : Binds K fd23 ["cell"] [] := F23.bindsN fun _ _ _ _ _ _ us hl => match us, hl with | [_], _ => rfl
  have b24 : Binds K fd24 ["well", "many"] [] := F24.bindsN fun _ _ _ _ _ _ us hl => match us, hl with | [_, _], _ => rfl
  have b25 : Binds K fd25 ["well", "some"] [] := F25.bindsN fun _ _ _ _ _ _ us hl => match us, hl with | [_, _], _ => rfl
  have b26 : Binds K fd26 ["thing", "sort"] [] := F26.bindsN fun _ _ _ _ _ _ us hl => match us, hl with | [_, _], _ => rfl
  have b27 : Binds K fd27 ["thing", "sort"] [] := F27.bindsN fun _ _ _ _ _ _ us hl => match us, hl with | [_, _], _ => rfl
  have b28 : Binds K fd28 ["thing"] [] := F28.bindsN fun _ _ _ _ _ _ us hl => match us, hl with | [_], _ => rfl
  have b29 : Binds K fd29 ["row"] [] := F29.bindsN fun _ _ _ _ _ _ us hl => match us, hl with | [_], _ => rfl
  have b30 : Binds K fd30 ["thing"] [] := F30.bindsN fun _ _ _ _ _ _ us hl => match us, hl with | [_], _ => rfl
  have b31 : Binds K fd31 ["row"] [] := F31.bindsN fun _ _ _ _ _ _ us hl => match us, hl with | [_], _ => rfl
  have b32 : Binds K fd32 ["row"] [] := F32.bindsN fun _ _ _ _ _ _ us hl => match us, hl with | [_], _ => rfl
  have b33 : Binds K fd33 ["row"] [] := F33.bindsN fun _ _ _ _ _ _ us hl => match us, hl with | [_], _ => rfl
  have b34 : Binds K fd34 ["row"] [] := F34.bindsN fun _ _ _ _ _ _ us hl => match us, hl with | [_], _ => rfl
  have b35 : Binds K fd35 ["rows"] [] := F35.bindsN fun _ _ _ _ _ _ us hl => match us, hl with | [_], _ => rfl
  have b36 : Binds K fd36 ["handler", "many"] [] := F36.bindsN fun _ _ _ _ _ _ us hl => match us, hl with | [_, _], _ => rfl
  have b37 : Binds K fd37 ["handlers", "many"] [] := F37.bindsN fun _ _ _ _ _ _ us hl => match us, hl with | [_, _], _ => rfl
  have b38 : Binds K fd38 ["thing", "many"] [] := F38.bindsN fun _ _ _ _ _ _ us hl => match us, hl with | [_, _], _ => rfl
  have b39 : Binds K fd39 ["frame", "least", "many"] [] := F39.bindsN fun _ _ _ _ _ _ us hl => match us, hl with | [_, _, _], _ => rfl
  have b40 : Binds K fd40 ["frames", "many"] [] := F40.bindsN fun _ _ _ _ _ _ us hl => match us, hl with | [_, _], _ => rfl
  have b41 : Binds K fd41 ["self", "stack", "places", "rows", "handlers", "frames"] [] := F41.bindsN fun _ _ _ _ _ _ us hl => match us, hl with | [_, _, _, _, _, _], _ => rfl
  have b42 : Binds K fd42 ["code"] [] := F42.bindsN fun _ _ _ _ _ _ us hl => match us, hl with | [_], _ => rfl
  have b43 : Binds K fd43 ["code"] [] := F43.bindsN fun _ _ _ _ _ _ us hl => match us, hl with | [_], _ => rfl
  have b44 : Binds K fd44 ["well", "many"] [] := F44.bindsN fun _ _ _ _ _ _ us hl => match us, hl with | [_, _], _ => rfl
  have b45 : Binds K fd45 ["well"] [] := F45.bindsN fun _ _ _ _ _ _ us hl => match us, hl with | [_], _ => rfl
  have e := hfa.symm.trans (He.glo_ok X G (c.fact 44 (f := .glo "law") rfl))
  cases e
  have b := FunD.bindsA (ps := ["script"]) F46 fun _ _ _ _ _ _ us hl => match us, hl with | [_], _ => rfl
  have b47 : Binds K fd47 ["question"] [] := F47.bindsN fun _ _ _ _ _ _ us hl => match us, hl with | [_], _ => rfl
  have sd : SaidN K mg (He.ga K "NoCode") := ⟨⟨_, fd47, F47, (He.glo_ok X G (c.fact 45 (f := .glo "_law_said") rfl)), b47⟩, NC⟩
  have hnil : ∀ (H : Hp), (∀ p ∈ tfL.map (He.cT K), H p.2 = some (.tbl #[])) → Tabs (TL K) H := fun H h p hp => by
    obtain rfl := List.mem_singleton.mp hp
    exact TabS.nil (h (He.cT K ("law", none)) (List.mem_map_of_mem (l := tfL) (a := ("law", none)) (by decide +kernel)))
  refine ⟨fd46, tfL.map (He.cT K), spLaw K (TL K), ?_, ?_, ?_, fun s v => b s [v] rfl, fun H a ns hl _ hT hS => ⟨a, ns, rfl, hS, hl, hnil H hT, fun _ => rfl⟩, fun base _ _ TB => ?_⟩
  · intro p hp
    obtain ⟨q, hq, rfl⟩ := List.mem_map.mp hp
    exact cX.empty q hq
  · intro p hp
    obtain ⟨q, hq, rfl⟩ := List.mem_map.mp hp
    exact cX.out q hq
  · intro p hp
    obtain ⟨q, hq, rfl⟩ := List.mem_map.mp hp
    exact PySem.W.codeHd_of_K X (cX.hd q hq)
  have TBL : TabB base mg (He.codeOf K ("law", none)) (He.cT K ("law", none)).2 := TB (He.cT K ("law", none)) (List.mem_map_of_mem (l := tfL) (a := ("law", none)) (by decide +kernel))
  have hcL : fd46.code = .ref (He.codeOf K ("law", none)) := code_of (x := "law") (st := sLaw) (p := ("law", none)) F46
  have c_ok_sign : Cl l.prog w K mg base L2.CX0 1 "_is_name_sign" ["sign"] spSign := ⟨_, fd0, ok_sign F0, (He.glo_ok X G (c.fact 0 (f := .glo "_is_name_sign") rfl)), F0.kp, b0⟩
  have c_ok_isName : Cl l.prog w K mg base L2.CX0 2 "is_name" ["thing"] (spName K isNameL) := ⟨_, fd1, ok_isName F1 B c_ok_sign g_LONGEST_NAME, (He.glo_ok X G (c.fact 1 (f := .glo "is_name") rfl)), F1.kp, b1⟩
  have c_ok_isClass : Cl l.prog w K mg base L2.CX0 3 "is_class_name" ["thing"] (spName K isClassL) := ⟨_, fd2, ok_isClass F2 B c_ok_isName g_LONGEST_CLASS_NAME, (He.glo_ok X G (c.fact 2 (f := .glo "is_class_name") rfl)), F2.kp, b2⟩
  have c_ok_isRow : Cl l.prog w K mg base L2.CX0 1 "is_row" ["thing"] (spRow K) := ⟨_, fd8, ok_isRow F8 B, (He.glo_ok X G (c.fact 8 (f := .glo "is_row") rfl)), F8.kp, b8⟩
  have c_ok_keptInterfaces : Cl l.prog w K mg base L2.CX0 4 "_kept_interfaces" ["interfaces"] spFaces := ⟨_, fd20, ok_keptInterfaces F20 B c_ok_isRow c_ok_isClass, (He.glo_ok X G (c.fact 20 (f := .glo "_kept_interfaces") rfl)), F20.kp, b20⟩
  have c_ok_rowOfFlags : Cl l.prog w K mg base L2.CX0 2 "_is_row_of_flags" ["thing"] spFlags := ⟨_, fd11, ok_rowOfFlags F11 B gFlg c_ok_isRow, (He.glo_ok X G (c.fact 11 (f := .glo "_is_row_of_flags") rfl)), F11.kp, b11⟩
  have c_ok_inOrder : Cl l.prog w K mg base L2.CX0 1 "_in_order" ["flags"] spInOrder := ⟨_, fd12, ok_inOrder F12 B gFlg, (He.glo_ok X G (c.fact 12 (f := .glo "_in_order") rfl)), F12.kp, b12⟩
  have c_ok_fieldEnd : Cl l.prog w K mg base L2.CX0 4 "_field_end" ["text", "begin"] spFieldEnd := ⟨_, fd3, ok_fieldEnd F3 B c_ok_isClass g_MOST_BRACKETS gLet, (He.glo_ok X G (c.fact 3 (f := .glo "_field_end") rfl)), F3.kp, b3⟩
  have c_ok_isField : Cl l.prog w K mg base L2.CX0 5 "is_field_descriptor" ["thing"] (spName K isFieldL) := ⟨_, fd4, ok_isField F4 B c_ok_fieldEnd, (He.glo_ok X G (c.fact 4 (f := .glo "is_field_descriptor") rfl)), F4.kp, b4⟩
  have c_ok_isInteger : Cl l.prog w K mg base L2.CX0 1 "is_integer" ["thing"] spInt := ⟨_, fd7, ok_isInteger F7 B, (He.glo_ok X G (c.fact 7 (f := .glo "is_integer") rfl)), F7.kp, b7⟩
  have c_ok_isWithin : Cl l.prog w K mg base L2.CX0 2 "is_within" ["thing", "low", "high"] spWithin := ⟨_, fd10, ok_isWithin F10 B c_ok_isInteger, (He.glo_ok X G (c.fact 10 (f := .glo "is_within") rfl)), F10.kp, b10⟩
  have c_ok_isText : Cl l.prog w K mg base L2.CX0 2 "is_text" ["thing"] spText := ⟨_, fd13, ok_isText F13 B gSig, (He.glo_ok X G (c.fact 13 (f := .glo "is_text") rfl)), F13.kp, b13⟩
  have c_ok_isString : Cl l.prog w K mg base L2.CX0 3 "is_string" ["thing"] spString := ⟨_, fd14, ok_isString F14 B g_LONGEST_STRING c_ok_isText, (He.glo_ok X G (c.fact 14 (f := .glo "is_string") rfl)), F14.kp, b14⟩
  have c_ok_isConstant : Cl l.prog w K mg base L2.CX0 4 "_is_constant" ["thing"] spConst := ⟨_, fd15, ok_isConstant F15 B g_LEAST_LONG g_GREATEST_LONG c_ok_isWithin c_ok_isString, (He.glo_ok X G (c.fact 15 (f := .glo "_is_constant") rfl)), F15.kp, b15⟩
  have c_ok_isMName : Cl l.prog w K mg base L2.CX0 3 "is_method_name" ["thing"] spMName := ⟨_, fd16, ok_isMName F16 B c_ok_isName, (He.glo_ok X G (c.fact 16 (f := .glo "is_method_name") rfl)), F16.kp, b16⟩
  have c_ok_places : Cl l.prog w K mg base L2.CX0 1 "places_of" ["descriptors"] (spPlaces K) := ⟨_, fd5, ok_places F5 B, (He.glo_ok X G (c.fact 5 (f := .glo "places_of") rfl)), F5.kp, b5⟩
  have c_ok_parts : Cl l.prog w K mg base L2.CX0 6 "_method_parts" ["thing"] (spParts K) := ⟨_, fd6, ok_parts F6 B c_ok_fieldEnd c_ok_isField c_ok_places g_MOST_PARAMETER_PLACES, (He.glo_ok X G (c.fact 6 (f := .glo "_method_parts") rfl)), F6.kp, b6⟩
  have c_ok_isMDesc : Cl l.prog w K mg base L2.CX0 7 "is_method_descriptor" ["thing"] spMDesc := ⟨_, fd17, ok_isMDesc F17 B c_ok_parts, (He.glo_ok X G (c.fact 17 (f := .glo "is_method_descriptor") rfl)), F17.kp, b17⟩
  have held : ∀ f sp, memS K (He.ga K "_is_field") (He.ga K "_is_method") f = some sp → Held l.prog w K mg base 8 f sp := by
    intro f sp e
    unfold memS at e
    split at e
    · rename_i h
      subst h
      cases e
      exact ⟨fd18, ["member"], FnOk.mono (ok_isField2 F18 B c_ok_isName c_ok_isField c_ok_rowOfFlags c_ok_isConstant) (by decide), F18.kp, b18⟩
    · split at e
      · rename_i h
        subst h
        cases e
        exact ⟨fd19, ["member"], ok_isMethod F19 B cu c_ok_isMName c_ok_isMDesc c_ok_rowOfFlags, F19.kp, b19⟩
      · cases e
  have c_ok_isTupleOf : Cl l.prog w K mg base L2.CX0 1 "is_tuple_of" ["thing", "many"] (spTupOf K) := ⟨_, fd9, ok_isTupleOf F9 B, (He.glo_ok X G (c.fact 9 (f := .glo "is_tuple_of") rfl)), F9.kp, b9⟩
  have c_ok_keptMembers : Cl l.prog w K mg base L2.CX0 9 "_kept_members" ["members", "word", "is_member"] (spKept K (He.ga K "_is_field") (He.ga K "_is_method")) := ⟨_, fd21, ok_keptMembers F21 B held c_ok_isRow c_ok_isTupleOf c_ok_inOrder, (He.glo_ok X G (c.fact 21 (f := .glo "_kept_members") rfl)), F21.kp, b21⟩
  have mCF : MkCF l.prog w K mg base := ⟨(He.glo_ok X G (c.fact 79 (f := .glo "ClassFile") rfl)), _, fd22, He.mkr_ok (c.fact 98 (f := .mkr "ClassFile") rfl), ok_classFile F22 B cfk (He.glo_ok X G (c.fact 18 (f := .glo "_is_field") rfl)) (He.glo_ok X G (c.fact 19 (f := .glo "_is_method") rfl)) (of_decide_eq_true a3) c_ok_isClass c_ok_keptInterfaces c_ok_rowOfFlags c_ok_inOrder c_ok_keptMembers, b22⟩
  have c_ok_lawWell : Cl l.prog w K mg base L2.CX0 1 "_law_well" ["cell"] spWell := ⟨_, fd23, ok_lawWell F23 B, (He.glo_ok X G (c.fact 22 (f := .glo "_law_well") rfl)), F23.kp, b23⟩
  have c_ok_hasSortI : Cl l.prog w K mg base L2.CX0 3 "_has_sort" ["thing", "sort"] spSortI := ⟨_, fd27, ok_hasSortI F27 B bnd c_ok_isWithin, (He.glo_ok X G (c.fact 26 (f := .glo "_has_sort") rfl)), F27.kp, b27⟩
  have c_ok_isPair : Cl l.prog w K mg base L2.CX0 4 "_is_pair" ["thing"] spPair := ⟨_, fd28, ok_isPair F28 B c_ok_isTupleOf c_ok_hasSortI c_ok_isInteger, (He.glo_ok X G (c.fact 27 (f := .glo "_is_pair") rfl)), F28.kp, b28⟩
  have c_ok_isTold : Cl l.prog w K mg base L2.CX0 8 "_is_told" ["thing", "sort"] spTold := ⟨_, fd26, ok_isTold F26 B c_ok_isName c_ok_isClass c_ok_isMDesc, (He.glo_ok X G (c.fact 25 (f := .glo "_is_told") rfl)), F26.kp, b26⟩
  have c_ok_hasSort : Cl l.prog w K mg base L2.CX0 9 "_has_sort" ["thing", "sort"] spSort := ⟨_, fd27, ok_hasSort F27 B bnd c_ok_isWithin c_ok_isInteger c_ok_isRow c_ok_isPair c_ok_isTold, (He.glo_ok X G (c.fact 26 (f := .glo "_has_sort") rfl)), F27.kp, b27⟩
  have c_ok_agrees : Cl l.prog w K mg base L2.CX0 1 "_agrees" ["row"] spIns := ⟨_, fd29, ok_agrees F29 B, (He.glo_ok X G (c.fact 28 (f := .glo "_agrees") rfl)), F29.kp, b29⟩
  have c_ok_isInstruction : Cl l.prog w K mg base L2.CX0 10 "is_instruction" ["thing"] spIns := ⟨_, fd30, ok_isInstruction F30 B args c_ok_hasSort c_ok_agrees, (He.glo_ok X G (c.fact 29 (f := .glo "is_instruction") rfl)), F30.kp, b30⟩
  have c_ok_ascends : Cl l.prog w K mg base L2.CX0 1 "ascends" ["row"] spIns := ⟨_, fd31, ok_ascends F31 B, (He.glo_ok X G (c.fact 30 (f := .glo "ascends") rfl)), F31.kp, b31⟩
  have c_ok_rightPairs : Cl l.prog w K mg base L2.CX0 2 "has_right_pairs" ["row"] spIns := ⟨_, fd32, ok_rightPairs F32 B c_ok_ascends, (He.glo_ok X G (c.fact 31 (f := .glo "has_right_pairs") rfl)), F32.kp, b32⟩
  have c_ok_targets : Cl l.prog w K mg base L2.CX0 1 "targets" ["row"] spTargets := ⟨_, fd33, ok_targets F33 B args, (He.glo_ok X G (c.fact 32 (f := .glo "targets") rfl)), F33.kp, b33⟩
  have c_ok_kept : Cl l.prog w K mg base L2.CX0 1 "kept" ["row"] spKept1 := ⟨_, fd34, ok_kept F34 B, (He.glo_ok X G (c.fact 33 (f := .glo "kept") rfl)), F34.kp, b34⟩
  have c_ok_keptRows : Cl l.prog w K mg base L2.CX0 11 "_kept_rows" ["rows"] (spRows K) := ⟨_, fd35, ok_keptRows F35 B g_MOST_ROWS c_ok_isRow c_ok_isInstruction c_ok_rightPairs c_ok_targets c_ok_kept, (He.glo_ok X G (c.fact 34 (f := .glo "_kept_rows") rfl)), F35.kp, b35⟩
  have c_ok_isHandler : Cl l.prog w K mg base L2.CX0 4 "_is_handler" ["handler", "many"] (spHand K) := ⟨_, fd36, ok_isHandler F36 B c_ok_isClass c_ok_isWithin, (He.glo_ok X G (c.fact 35 (f := .glo "_is_handler") rfl)), F36.kp, b36⟩
  have c_ok_keptHandlers : Cl l.prog w K mg base L2.CX0 5 "_kept_handlers" ["handlers", "many"] (spHands K) := ⟨_, fd37, ok_keptHandlers F37 B c_ok_isRow c_ok_isTupleOf c_ok_isHandler, (He.glo_ok X G (c.fact 36 (f := .glo "_kept_handlers") rfl)), F37.kp, b37⟩
  have c_ok_rowOfEntries : Cl l.prog w K mg base L2.CX0 2 "_is_row_of_entries" ["thing", "many"] (spNoEnt K) := ⟨_, fd38, ok_rowOfEntries F38 B g_MOST_ENTRIES c_ok_isRow, (He.glo_ok X G (c.fact 37 (f := .glo "_is_row_of_entries") rfl)), F38.kp, b38⟩
  have c_ok_isFrame : Cl l.prog w K mg base L2.CX0 3 "_is_frame" ["frame", "least", "many"] (spFrame K) := ⟨_, fd39, ok_isFrame F39 B c_ok_isWithin c_ok_rowOfEntries, (He.glo_ok X G (c.fact 38 (f := .glo "_is_frame") rfl)), F39.kp, b39⟩
  have c_ok_keptFrames : Cl l.prog w K mg base L2.CX0 4 "_kept_frames" ["frames", "many"] (spFrames K) := ⟨_, fd40, ok_keptFrames F40 B c_ok_isRow c_ok_isTupleOf c_ok_isFrame, (He.glo_ok X G (c.fact 39 (f := .glo "_kept_frames") rfl)), F40.kp, b40⟩
  have mCo : MkCo l.prog w K mg base := ⟨(He.glo_ok X G (c.fact 80 (f := .glo "Code") rfl)), _, fd41, He.mkr_ok (c.fact 99 (f := .mkr "Code") rfl), ok_codeI F41 B ckk g_MOST_PLACES c_ok_isWithin c_ok_keptRows c_ok_keptHandlers c_ok_keptFrames, b41⟩
  have c_ok_lawDraw : Cl l.prog w K mg base L2.CX0 1 "_law_draw" ["well", "many"] spDraw := ⟨_, fd24, ok_lawDraw F24 B, (He.glo_ok X G (c.fact 23 (f := .glo "_law_draw") rfl)), F24.kp, b24⟩
  have c_ok_lawOne : Cl l.prog w K mg base L2.CX0 2 "_law_one" ["well", "some"] spOne := ⟨_, fd25, ok_lawOne F25 B c_ok_lawDraw, (He.glo_ok X G (c.fact 24 (f := .glo "_law_one") rfl)), F25.kp, b25⟩
  have c_ok_lawRow : Cl l.prog w K mg base L2.CX0 3 "_law_row" ["well", "many"] spLRow := ⟨_, fd44, ok_lawRow F44 B c_ok_lawDraw c_ok_lawOne, (He.glo_ok X G (c.fact 42 (f := .glo "_law_row") rfl)), F44.kp, b44⟩
  have c_ok_lawCode : Cl l.prog w K mg base L2.CX0 14 "_law_code" ["well"] (spLCode K) := ⟨_, fd45, ok_lawCode F45 B mCo c_ok_lawDraw c_ok_lawOne c_ok_lawRow, (He.glo_ok X G (c.fact 43 (f := .glo "_law_code") rfl)), F45.kp, b45⟩
  have c_ok_isWhole : Cl l.prog w K mg base L2.CX0 14 "_is_whole" ["code"] (spWhole K) := ⟨_, fd42, ok_isWhole F42 B ckk mCo gNF, (He.glo_ok X G (c.fact 40 (f := .glo "_is_whole") rfl)), F42.kp, b42⟩
  have c_ok_needed : Cl l.prog w K mg base L2.CX0 15 "needed" ["code"] (spNeeded K) := ⟨_, fd43, ok_needed F43 B ckk coi gLW c_ok_isWhole c_ok_targets, (He.glo_ok X G (c.fact 41 (f := .glo "needed") rfl)), F43.kp, b43⟩
  have c_ok_neededX : Cl l.prog w K mg base (L2.CX l.prog w) 15 "needed" ["code"] (spNeededX K (He.ga K "NoCode")) := ⟨_, fd43, ok_neededX F43 B coi NC, (He.glo_ok X G (c.fact 41 (f := .glo "needed") rfl)), F43.kp, b43⟩
  exact ok_law F46 hcL B TBL List.mem_cons_self (fun p hp _ => by obtain rfl := List.mem_singleton.mp hp; rfl) sd kco mCF c_ok_lawWell c_ok_lawCode c_ok_needed c_ok_neededX
end N8
open PySem PySem.W PySem.Calls PyProof.Rows
theorem PySem.Challenge.cw_typegate_k13_needed_places_holds : PySem.Challenge.rw_typegate_k13_needed_places.Holds := by
  w_on; o_law
  o_head N8H.hkT
  case hw => w_witness2
  case hc =>
    refine LamX.walk_ofTsE (l := PySem.Challenge.rw_typegate_k13_needed_places) (n := 63) (k := 18) (x := "script") (CX := fun _ => L2.CX0) rfl (by decide) (by kernel_rfl) ⟨rfl, by decide, by decide⟩ ?F (fun _ _ _ _ _ z => z)
    intro w mg fa h Y G hmg0
    obtain ⟨K, KX, c⟩ := Y
    have hmg : mg ("law" : PySem.Str) = some (.ref fa) := hmg0
    exact ⟨K, KX, N8.facts KX G hmg c⟩
