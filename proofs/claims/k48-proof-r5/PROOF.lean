import PyProof.Rows.All
import Wide.All
import OpenK.AllK
import Wide.FinOn
import HandS.Codes
import HandS.Defaults
import HandS.Evl
import HandS.ForExc
import HandS.ForMost
import HandS.Head2
import HandS.HeadEnd
import HandS.HeadHook2
import HandS.IsInst
import HandS.Small
import HandS.StrMore
import HandS.Walk
import HandS.Wide
import HandS.WideBits
import HandS.HeadHook4
import HandS.Strs
import HandS.CallLocal
import HandS.OwnEq
import HandS.TupSets
import HandS.SetKeys
import HandS.Iter
import KE.GoesMore
import HandS.TryMany
import HandS.TryOnly
import HandS.SuiteRaise
import HandS.Zip
import HandS.Replace
import PySem.Challenge.RW_typegate_k48_whole_forms_of_classes
set_option Elab.async false
set_option linter.all false
set_option maxRecDepth 100000
set_option autoImplicit false
set_option maxHeartbeats 4000000
namespace N8H
open PySem PySem.Spec PyProof.Rows L2
def topS (i : Nat) : Stmt := PySem.Challenge.pw_typegate_k48_whole_forms_of_classes.main.body.getD i (.Pass ⟨0, 0, 0, 0⟩)
def inCls (s : Stmt) : List Stmt := match s with | .ClassDef (body := rows) .. => rows | _ => []
abbrev sAgrees : Stmt := topS 43
abbrev sAscends : Stmt := topS 44
abbrev sClassFileEq : Stmt := (inCls (topS 56)).getD 1 (.Pass ⟨0, 0, 0, 0⟩)
abbrev sClassFileInit : Stmt := (inCls (topS 56)).getD 0 (.Pass ⟨0, 0, 0, 0⟩)
abbrev sCodeInit : Stmt := (inCls (topS 57)).getD 0 (.Pass ⟨0, 0, 0, 0⟩)
abbrev sFault : Stmt := topS 80
abbrev sFaultOfClass : Stmt := topS 81
abbrev sFaultOfFields : Stmt := topS 85
abbrev sFaultOfMethods : Stmt := topS 89
abbrev sFieldEnd : Stmt := topS 27
abbrev sHasClassFlags : Stmt := topS 82
abbrev sHasCodeAsTold : Stmt := topS 94
abbrev sHasFieldFlags : Stmt := topS 86
abbrev sHasMethodFlags : Stmt := topS 91
abbrev sHasOneAccess : Stmt := topS 87
abbrev sHasRightConstant : Stmt := topS 88
abbrev sHasRightPairs : Stmt := topS 45
abbrev sHasRightParent : Stmt := topS 83
abbrev sHasRightResult : Stmt := topS 93
abbrev sHasRoom : Stmt := topS 95
abbrev sInOrder : Stmt := topS 61
abbrev sIsClassName : Stmt := topS 18
abbrev sIsConstant : Stmt := topS 64
abbrev sIsField : Stmt := topS 63
abbrev sIsFieldDescriptor : Stmt := topS 20
abbrev sIsInstruction : Stmt := topS 38
abbrev sIsInteger : Stmt := topS 1
abbrev sIsMethod : Stmt := topS 65
abbrev sIsMethodDescriptor : Stmt := topS 21
abbrev sIsMethodName : Stmt := topS 19
abbrev sIsName : Stmt := topS 16
abbrev sIsNameSign : Stmt := topS 17
abbrev sIsRow : Stmt := topS 3
abbrev sIsRowOfFlags : Stmt := topS 60
abbrev sIsString : Stmt := topS 42
abbrev sIsText : Stmt := topS 33
abbrev sIsTupleOf : Stmt := topS 4
abbrev sIsWithin : Stmt := topS 2
abbrev sKept : Stmt := topS 47
abbrev sKeptFrames : Stmt := topS 69
abbrev sKeptHandlers : Stmt := topS 67
abbrev sKeptInterfaces : Stmt := topS 59
abbrev sKeptMembers : Stmt := topS 62
abbrev sKeptRows : Stmt := topS 66
abbrev sLaw : Stmt := topS 116
abbrev sLawAccesses : Stmt := topS 107
abbrev sLawAllWords : Stmt := topS 101
abbrev sLawClassDue : Stmt := topS 106
abbrev sLawDraw : Stmt := topS 98
abbrev sLawDue : Stmt := topS 112
abbrev sLawField : Stmt := topS 103
abbrev sLawFieldDue : Stmt := topS 109
abbrev sLawFits : Stmt := topS 108
abbrev sLawFlags : Stmt := topS 102
abbrev sLawFlagsBad : Stmt := topS 110
abbrev sLawMade : Stmt := topS 113
abbrev sLawMethod : Stmt := topS 104
abbrev sLawMethodDue : Stmt := topS 111
abbrev sLawOne : Stmt := topS 99
abbrev sLawPlan : Stmt := topS 105
abbrev sLawRight : Stmt := topS 114
abbrev sLawSaid : Stmt := topS 115
abbrev sLawWell : Stmt := topS 97
abbrev sLawWords : Stmt := topS 100
abbrev sMayStandInInterface : Stmt := topS 92
abbrev sMethodParts : Stmt := topS 26
abbrev sParameters : Stmt := topS 24
abbrev sPlacesOf : Stmt := topS 23
abbrev sResult : Stmt := topS 25
abbrev sStandAhead : Stmt := topS 84
abbrev sTargets : Stmt := topS 46
abbrev sUncutInit : Stmt := (inCls (topS 58)).getD 0 (.Pass ⟨0, 0, 0, 0⟩)
abbrev sWordForMethod : Stmt := topS 90
def signsL : List Nat := [32, 33, 34, 35, 36, 38, 39, 40, 41, 42, 43, 44, 45, 46, 47, 48, 49, 50, 51, 52, 53, 54, 55, 56, 57, 58, 59, 60, 61, 62, 63, 64, 65, 66, 67, 68, 69, 70, 71, 72, 73, 74, 75, 76, 77, 78, 79, 80, 81, 82, 83, 84, 85, 86, 87, 88, 89, 90, 91, 92, 93, 94, 95, 96, 97, 98, 99, 100, 101, 102, 103, 104, 105, 106, 107, 108, 109, 110, 111, 112, 113, 114, 115, 116, 117, 118, 119, 120, 121, 122, 123, 124, 125, 126]
def four : List Str := ["public", "final", "abstract", "interface"]
def acc3 : List Str := ["public", "private", "protected"]
def five : List Str := ["public", "private", "protected", "static", "final"]
def wideF : List Str := ["public", "static", "final"]
def nwa : List Str := ["private", "static", "final", "synchronized", "native"]
def nii : List Str := ["protected", "final", "synchronized", "native"]
def ints5 : List Str := ["Z", "B", "S", "C", "I"]
def uw : List Str := ["opcode", "cut", "switch", "local", "jump", "sort", "count", "handler", "map"]
def flags9 : List Str := ["public", "private", "protected", "static", "final", "synchronized", "abstract", "interface", "native"]
def two : List Str := ["return", "nop"]
def cl (K : PySem.W.Frag) (x : Str) : Addr := He.ga K x
def dIsNameSign : He.DefD := ⟨("_is_name_sign", none), "_is_name_sign", "_is_name_sign", L2.defArgs sIsNameSign, L2.defBody sIsNameSign, L2.defScope sIsNameSign, [], []⟩
def dIsName : He.DefD := ⟨("is_name", none), "is_name", "is_name", L2.defArgs sIsName, L2.defBody sIsName, L2.defScope sIsName, [], []⟩
def dIsClassName : He.DefD := ⟨("is_class_name", none), "is_class_name", "is_class_name", L2.defArgs sIsClassName, L2.defBody sIsClassName, L2.defScope sIsClassName, [], []⟩
def dFieldEnd : He.DefD := ⟨("_field_end", none), "_field_end", "_field_end", L2.defArgs sFieldEnd, L2.defBody sFieldEnd, L2.defScope sFieldEnd, [], []⟩
def dIsFieldDescriptor : He.DefD := ⟨("is_field_descriptor", none), "is_field_descriptor", "is_field_descriptor", L2.defArgs sIsFieldDescriptor, L2.defBody sIsFieldDescriptor, L2.defScope sIsFieldDescriptor, [], []⟩
def dPlacesOf : He.DefD := ⟨("places_of", none), "places_of", "places_of", L2.defArgs sPlacesOf, L2.defBody sPlacesOf, L2.defScope sPlacesOf, [], []⟩
def dMethodParts : He.DefD := ⟨("_method_parts", none), "_method_parts", "_method_parts", L2.defArgs sMethodParts, L2.defBody sMethodParts, L2.defScope sMethodParts, [], []⟩
def dIsInteger : He.DefD := ⟨("is_integer", none), "is_integer", "is_integer", L2.defArgs sIsInteger, L2.defBody sIsInteger, L2.defScope sIsInteger, [], []⟩
def dIsRow : He.DefD := ⟨("is_row", none), "is_row", "is_row", L2.defArgs sIsRow, L2.defBody sIsRow, L2.defScope sIsRow, [], []⟩
def dIsTupleOf : He.DefD := ⟨("is_tuple_of", none), "is_tuple_of", "is_tuple_of", L2.defArgs sIsTupleOf, L2.defBody sIsTupleOf, L2.defScope sIsTupleOf, [], []⟩
def dIsWithin : He.DefD := ⟨("is_within", none), "is_within", "is_within", L2.defArgs sIsWithin, L2.defBody sIsWithin, L2.defScope sIsWithin, [], []⟩
def dIsRowOfFlags : He.DefD := ⟨("_is_row_of_flags", none), "_is_row_of_flags", "_is_row_of_flags", L2.defArgs sIsRowOfFlags, L2.defBody sIsRowOfFlags, L2.defScope sIsRowOfFlags, [], []⟩
def dInOrder : He.DefD := ⟨("_in_order", none), "_in_order", "_in_order", L2.defArgs sInOrder, L2.defBody sInOrder, L2.defScope sInOrder, [], []⟩
def dIsText : He.DefD := ⟨("is_text", none), "is_text", "is_text", L2.defArgs sIsText, L2.defBody sIsText, L2.defScope sIsText, [], []⟩
def dIsString : He.DefD := ⟨("is_string", none), "is_string", "is_string", L2.defArgs sIsString, L2.defBody sIsString, L2.defScope sIsString, [], []⟩
def dIsConstant : He.DefD := ⟨("_is_constant", none), "_is_constant", "_is_constant", L2.defArgs sIsConstant, L2.defBody sIsConstant, L2.defScope sIsConstant, [], []⟩
def dIsMethodName : He.DefD := ⟨("is_method_name", none), "is_method_name", "is_method_name", L2.defArgs sIsMethodName, L2.defBody sIsMethodName, L2.defScope sIsMethodName, [], []⟩
def dIsMethodDescriptor : He.DefD := ⟨("is_method_descriptor", none), "is_method_descriptor", "is_method_descriptor", L2.defArgs sIsMethodDescriptor, L2.defBody sIsMethodDescriptor, L2.defScope sIsMethodDescriptor, [], []⟩
def dIsField : He.DefD := ⟨("_is_field", none), "_is_field", "_is_field", L2.defArgs sIsField, L2.defBody sIsField, L2.defScope sIsField, [], []⟩
def dIsMethod : He.DefD := ⟨("_is_method", none), "_is_method", "_is_method", L2.defArgs sIsMethod, L2.defBody sIsMethod, L2.defScope sIsMethod, [], []⟩
def dKeptInterfaces : He.DefD := ⟨("_kept_interfaces", none), "_kept_interfaces", "_kept_interfaces", L2.defArgs sKeptInterfaces, L2.defBody sKeptInterfaces, L2.defScope sKeptInterfaces, [], []⟩
def dKeptMembers : He.DefD := ⟨("_kept_members", none), "_kept_members", "_kept_members", L2.defArgs sKeptMembers, L2.defBody sKeptMembers, L2.defScope sKeptMembers, [], []⟩
def dClassFileInit : He.DefD := ⟨("ClassFile", some "__init__"), "__init__", "ClassFile.__init__", L2.defArgs sClassFileInit, L2.defBody sClassFileInit, L2.defScope sClassFileInit, [], []⟩
def dLawWell : He.DefD := ⟨("_law_well", none), "_law_well", "_law_well", L2.defArgs sLawWell, L2.defBody sLawWell, L2.defScope sLawWell, [], []⟩
def dLawDraw : He.DefD := ⟨("_law_draw", none), "_law_draw", "_law_draw", L2.defArgs sLawDraw, L2.defBody sLawDraw, L2.defScope sLawDraw, [], []⟩
def dLawOne : He.DefD := ⟨("_law_one", none), "_law_one", "_law_one", L2.defArgs sLawOne, L2.defBody sLawOne, L2.defScope sLawOne, [], []⟩
def dLawWords : He.DefD := ⟨("_law_words", none), "_law_words", "_law_words", L2.defArgs sLawWords, L2.defBody sLawWords, L2.defScope sLawWords, [], []⟩
def dLawAllWords : He.DefD := ⟨("_law_all_words", none), "_law_all_words", "_law_all_words", L2.defArgs sLawAllWords, L2.defBody sLawAllWords, L2.defScope sLawAllWords, [], []⟩
def dLawFlags : He.DefD := ⟨("_law_flags", none), "_law_flags", "_law_flags", L2.defArgs sLawFlags, L2.defBody sLawFlags, L2.defScope sLawFlags, [], []⟩
def dLawAccesses : He.DefD := ⟨("_law_accesses", none), "_law_accesses", "_law_accesses", L2.defArgs sLawAccesses, L2.defBody sLawAccesses, L2.defScope sLawAccesses, [], []⟩
def dLawFlagsBad : He.DefD := ⟨("_law_flags_bad", none), "_law_flags_bad", "_law_flags_bad", L2.defArgs sLawFlagsBad, L2.defBody sLawFlagsBad, L2.defScope sLawFlagsBad, [], []⟩
def dLawFits : He.DefD := ⟨("_law_fits", none), "_law_fits", "_law_fits", L2.defArgs sLawFits, L2.defBody sLawFits, L2.defScope sLawFits, [], []⟩
def dLawFieldDue : He.DefD := ⟨("_law_field_due", none), "_law_field_due", "_law_field_due", L2.defArgs sLawFieldDue, L2.defBody sLawFieldDue, L2.defScope sLawFieldDue, [], []⟩
def dLawClassDue : He.DefD := ⟨("_law_class_due", none), "_law_class_due", "_law_class_due", L2.defArgs sLawClassDue, L2.defBody sLawClassDue, L2.defScope sLawClassDue, [], []⟩
def dLawMade : He.DefD := ⟨("_law_made", none), "_law_made", "_law_made", L2.defArgs sLawMade, L2.defBody sLawMade, L2.defScope sLawMade, [], []⟩
def dStandAhead : He.DefD := ⟨("_stand_ahead", none), "_stand_ahead", "_stand_ahead", L2.defArgs sStandAhead, L2.defBody sStandAhead, L2.defScope sStandAhead, [], []⟩
def dHasClassFlags : He.DefD := ⟨("_has_class_flags", none), "_has_class_flags", "_has_class_flags", L2.defArgs sHasClassFlags, L2.defBody sHasClassFlags, L2.defScope sHasClassFlags, [], []⟩
def dHasRightParent : He.DefD := ⟨("_has_right_parent", none), "_has_right_parent", "_has_right_parent", L2.defArgs sHasRightParent, L2.defBody sHasRightParent, L2.defScope sHasRightParent, [], []⟩
def dFaultOfClass : He.DefD := ⟨("_fault_of_class", none), "_fault_of_class", "_fault_of_class", L2.defArgs sFaultOfClass, L2.defBody sFaultOfClass, L2.defScope sFaultOfClass, [], []⟩
def dHasOneAccess : He.DefD := ⟨("_has_one_access", none), "_has_one_access", "_has_one_access", L2.defArgs sHasOneAccess, L2.defBody sHasOneAccess, L2.defScope sHasOneAccess, [], []⟩
def dHasFieldFlags : He.DefD := ⟨("_has_field_flags", none), "_has_field_flags", "_has_field_flags", L2.defArgs sHasFieldFlags, L2.defBody sHasFieldFlags, L2.defScope sHasFieldFlags, [], []⟩
def dHasRightConstant : He.DefD := ⟨("_has_right_constant", none), "_has_right_constant", "_has_right_constant", L2.defArgs sHasRightConstant, L2.defBody sHasRightConstant, L2.defScope sHasRightConstant, [], []⟩
def dFaultOfFields : He.DefD := ⟨("_fault_of_fields", none), "_fault_of_fields", "_fault_of_fields", L2.defArgs sFaultOfFields, L2.defBody sFaultOfFields, L2.defScope sFaultOfFields, [], []⟩
def dParameters : He.DefD := ⟨("parameters", none), "parameters", "parameters", L2.defArgs sParameters, L2.defBody sParameters, L2.defScope sParameters, [], []⟩
def dResult : He.DefD := ⟨("result", none), "result", "result", L2.defArgs sResult, L2.defBody sResult, L2.defScope sResult, [], []⟩
def dMayStandInInterface : He.DefD := ⟨("_may_stand_in_interface", none), "_may_stand_in_interface", "_may_stand_in_interface", L2.defArgs sMayStandInInterface, L2.defBody sMayStandInInterface, L2.defScope sMayStandInInterface, [], []⟩
def dHasMethodFlags : He.DefD := ⟨("_has_method_flags", none), "_has_method_flags", "_has_method_flags", L2.defArgs sHasMethodFlags, L2.defBody sHasMethodFlags, L2.defScope sHasMethodFlags, [], []⟩
def dHasRightResult : He.DefD := ⟨("_has_right_result", none), "_has_right_result", "_has_right_result", L2.defArgs sHasRightResult, L2.defBody sHasRightResult, L2.defScope sHasRightResult, [], []⟩
def dHasCodeAsTold : He.DefD := ⟨("_has_code_as_told", none), "_has_code_as_told", "_has_code_as_told", L2.defArgs sHasCodeAsTold, L2.defBody sHasCodeAsTold, L2.defScope sHasCodeAsTold, [], []⟩
def dHasRoom : He.DefD := ⟨("_has_room", none), "_has_room", "_has_room", L2.defArgs sHasRoom, L2.defBody sHasRoom, L2.defScope sHasRoom, [], []⟩
def dWordForMethod : He.DefD := ⟨("_word_for_method", none), "_word_for_method", "_word_for_method", L2.defArgs sWordForMethod, L2.defBody sWordForMethod, L2.defScope sWordForMethod, [], []⟩
def dFaultOfMethods : He.DefD := ⟨("_fault_of_methods", none), "_fault_of_methods", "_fault_of_methods", L2.defArgs sFaultOfMethods, L2.defBody sFaultOfMethods, L2.defScope sFaultOfMethods, [], []⟩
def dFault : He.DefD := ⟨("fault", none), "fault", "fault", L2.defArgs sFault, L2.defBody sFault, L2.defScope sFault, [], []⟩
def dLawSaid : He.DefD := ⟨("_law_said", none), "_law_said", "_law_said", L2.defArgs sLawSaid, L2.defBody sLawSaid, L2.defScope sLawSaid, [], []⟩
def dAgrees : He.DefD := ⟨("_agrees", none), "_agrees", "_agrees", L2.defArgs sAgrees, L2.defBody sAgrees, L2.defScope sAgrees, [], []⟩
def dAscends : He.DefD := ⟨("ascends", none), "ascends", "ascends", L2.defArgs sAscends, L2.defBody sAscends, L2.defScope sAscends, [], []⟩
def dHasRightPairs : He.DefD := ⟨("has_right_pairs", none), "has_right_pairs", "has_right_pairs", L2.defArgs sHasRightPairs, L2.defBody sHasRightPairs, L2.defScope sHasRightPairs, [], []⟩
def dKept : He.DefD := ⟨("kept", none), "kept", "kept", L2.defArgs sKept, L2.defBody sKept, L2.defScope sKept, [], []⟩
def dTargets : He.DefD := ⟨("targets", none), "targets", "targets", L2.defArgs sTargets, L2.defBody sTargets, L2.defScope sTargets, [], []⟩
def dIsInstruction : He.DefD := ⟨("is_instruction", none), "is_instruction", "is_instruction", L2.defArgs sIsInstruction, L2.defBody sIsInstruction, L2.defScope sIsInstruction, [], []⟩
def dKeptRows : He.DefD := ⟨("_kept_rows", none), "_kept_rows", "_kept_rows", L2.defArgs sKeptRows, L2.defBody sKeptRows, L2.defScope sKeptRows, [], []⟩
def dKeptHandlers : He.DefD := ⟨("_kept_handlers", none), "_kept_handlers", "_kept_handlers", L2.defArgs sKeptHandlers, L2.defBody sKeptHandlers, L2.defScope sKeptHandlers, [], []⟩
def dKeptFrames : He.DefD := ⟨("_kept_frames", none), "_kept_frames", "_kept_frames", L2.defArgs sKeptFrames, L2.defBody sKeptFrames, L2.defScope sKeptFrames, [], []⟩
def dCodeInit : He.DefD := ⟨("Code", some "__init__"), "__init__", "Code.__init__", L2.defArgs sCodeInit, L2.defBody sCodeInit, L2.defScope sCodeInit, [], []⟩
def dUncutInit : He.DefD := ⟨("Uncut", some "__init__"), "__init__", "Uncut.__init__", L2.defArgs sUncutInit, L2.defBody sUncutInit, L2.defScope sUncutInit, [], []⟩
def dLawMethod : He.DefD := ⟨("_law_method", none), "_law_method", "_law_method", L2.defArgs sLawMethod, L2.defBody sLawMethod, L2.defScope sLawMethod, [], []⟩
def dLawField : He.DefD := ⟨("_law_field", none), "_law_field", "_law_field", L2.defArgs sLawField, L2.defBody sLawField, L2.defScope sLawField, [], []⟩
def dLawPlan : He.DefD := ⟨("_law_plan", none), "_law_plan", "_law_plan", L2.defArgs sLawPlan, L2.defBody sLawPlan, L2.defScope sLawPlan, [], []⟩
def dLawMethodDue : He.DefD := ⟨("_law_method_due", none), "_law_method_due", "_law_method_due", L2.defArgs sLawMethodDue, L2.defBody sLawMethodDue, L2.defScope sLawMethodDue, [], []⟩
def dLawDue : He.DefD := ⟨("_law_due", none), "_law_due", "_law_due", L2.defArgs sLawDue, L2.defBody sLawDue, L2.defScope sLawDue, [], []⟩
def dClassFileEq : He.DefD := ⟨("ClassFile", some "__eq__"), "__eq__", "ClassFile.__eq__", L2.defArgs sClassFileEq, L2.defBody sClassFileEq, L2.defScope sClassFileEq, [], []⟩
def dLawRight : He.DefD := ⟨("_law_right", none), "_law_right", "_law_right", L2.defArgs sLawRight, L2.defBody sLawRight, L2.defScope sLawRight, [], []⟩
def dLaw : He.DefD := ⟨("law", none), "law", "law", L2.defArgs sLaw, L2.defBody sLaw, L2.defScope sLaw, [], []⟩
def fnL : List He.DefD := [dIsNameSign, dIsName, dIsClassName, dFieldEnd, dIsFieldDescriptor, dPlacesOf, dMethodParts, dIsInteger, dIsRow, dIsTupleOf, dIsWithin, dIsRowOfFlags, dInOrder, dIsText, dIsString, dIsConstant, dIsMethodName, dIsMethodDescriptor, dIsField, dIsMethod, dKeptInterfaces, dKeptMembers, dClassFileInit, dLawWell, dLawDraw, dLawOne, dLawWords, dLawAllWords, dLawFlags, dLawAccesses, dLawFlagsBad, dLawFits, dLawFieldDue, dLawClassDue, dLawMade, dStandAhead, dHasClassFlags, dHasRightParent, dFaultOfClass, dHasOneAccess, dHasFieldFlags, dHasRightConstant, dFaultOfFields, dParameters, dResult, dMayStandInInterface, dHasMethodFlags, dHasRightResult, dHasCodeAsTold, dHasRoom, dWordForMethod, dFaultOfMethods, dFault, dLawSaid, dAgrees, dAscends, dHasRightPairs, dKept, dTargets, dIsInstruction, dKeptRows, dKeptHandlers, dKeptFrames, dCodeInit, dUncutInit, dLawMethod, dLawField, dLawPlan, dLawMethodDue, dLawDue, dClassFileEq, dLawRight, dLaw]
def faL : List He.Fa := [.glo "_is_name_sign", .glo "is_name", .glo "is_class_name", .glo "_field_end", .glo "is_field_descriptor", .glo "places_of", .glo "_method_parts", .glo "is_integer", .glo "is_row", .glo "is_tuple_of", .glo "is_within", .glo "_is_row_of_flags", .glo "_in_order", .glo "is_text", .glo "is_string", .glo "_is_constant", .glo "is_method_name", .glo "is_method_descriptor", .glo "_is_field", .glo "_is_method", .glo "_kept_interfaces", .glo "_kept_members", .glo "_law_well", .glo "_law_draw", .glo "_law_one", .glo "_law_words", .glo "_law_all_words", .glo "_law_flags", .glo "_law_accesses", .glo "_law_flags_bad", .glo "_law_fits", .glo "_law_field_due", .glo "_law_class_due", .glo "_law_made", .glo "_stand_ahead", .glo "_has_class_flags", .glo "_has_right_parent", .glo "_fault_of_class", .glo "_has_one_access", .glo "_has_field_flags", .glo "_has_right_constant", .glo "_fault_of_fields", .glo "parameters", .glo "result", .glo "_may_stand_in_interface", .glo "_has_method_flags", .glo "_has_right_result", .glo "_has_code_as_told", .glo "_has_room", .glo "_word_for_method", .glo "_fault_of_methods", .glo "fault", .glo "_law_said", .glo "_agrees", .glo "ascends", .glo "has_right_pairs", .glo "kept", .glo "targets", .glo "is_instruction", .glo "_kept_rows", .glo "_kept_handlers", .glo "_kept_frames", .glo "_law_method", .glo "_law_field", .glo "_law_plan", .glo "_law_method_due", .glo "_law_due", .glo "_law_right", .glo "law", .free "isinstance", .free "str", .free "len", .free "all", .free "sum", .free "int", .free "range", .free "bool", .free "list", .free "tuple", .free "set", .free "ord", .free "sorted", .free "enumerate", .free "any", .free "max", .free "zip", .int "LONGEST_NAME" 30, .int "LONGEST_CLASS_NAME" 60, .int "MOST_BRACKETS" 5, .int "MOST_PARAMETER_PLACES" 254, .int "MOST_PLACES" 255, .int "MOST_ROWS" 65535, .int "LONGEST_STRING" 200, .int "LEAST_LONG" (-9223372036854775808), .int "GREATEST_LONG" 9223372036854775807, .str "SIGNS" (SX.S signsL), .glo "OF_CLASSES", .glo "ACCESS", .glo "OF_FIELDS", .glo "OF_INTERFACE_FIELDS", .glo "NOT_WITH_ABSTRACT", .glo "NOT_IN_INTERFACES", .glo "OF_INTS", .glo "UNCUT_WORDS", .glo "FLAGS", .glo "LETTERS", .glo "ARGUMENTS", .glo "BOUNDS", .glo "ClassFile", .glo "Code", .glo "Uncut", .glo "NoFile", .glo "TypegateError", .cls "ClassFile", .cls "Code", .cls "Uncut", .noat "ClassFile" "name", .noat "ClassFile" "parent", .noat "ClassFile" "interfaces", .noat "ClassFile" "flags", .noat "ClassFile" "fields", .noat "ClassFile" "methods", .noat "Code" "stack", .noat "Code" "places", .noat "Code" "rows", .noat "Code" "handlers", .noat "Code" "frames", .noat "Uncut" "why", .noat "Uncut" "at", .mkr "ClassFile", .mkr "Code", .mkr "Uncut", .meth "ClassFile" "__eq__", .exc "NoFile", .exm "NoFile" "NoFile" true]
def keysA : List Str := (["aconst_null", "iconst", "lconst", "string", "class", "iload", "lload", "aload", "istore", "lstore", "astore", "iinc"] : List Str) ++ (["iadd", "isub", "imul", "idiv", "irem", "ineg", "iand", "ior", "ixor", "ishl", "ishr", "iushr"] : List Str) ++ (["ladd", "lsub", "lmul", "ldiv", "lrem", "lneg", "land", "lor", "lxor", "lshl", "lshr", "lushr"] : List Str) ++ (["i2l", "l2i", "i2b", "i2c", "i2s", "lcmp", "ifeq", "ifne", "iflt", "ifge", "ifgt", "ifle"] : List Str) ++ (["if_icmpeq", "if_icmpne", "if_icmplt", "if_icmpge", "if_icmpgt", "if_icmple", "if_acmpeq", "if_acmpne", "ifnull", "ifnonnull", "goto", "switch"] : List Str) ++ (["getstatic", "putstatic", "getfield", "putfield", "invokevirtual", "invokespecial", "invokestatic", "invokeinterface", "invokespecial_i", "invokestatic_i", "new", "newarray"] : List Str) ++ (["anewarray", "multianewarray", "arraylength", "iaload", "laload", "aaload", "baload", "caload", "saload", "iastore", "lastore", "aastore"] : List Str) ++ (["bastore", "castore", "sastore", "checkcast", "instanceof", "athrow", "monitorenter", "monitorexit", "nop", "pop", "pop2", "dup"] : List Str) ++ (["dup_x1", "dup_x2", "dup2", "dup2_x1", "dup2_x2", "swap", "ireturn", "lreturn", "areturn", "return"] : List Str)
def keysB : List Str := (["int", "long", "short", "local", "count"] : List Str)
def tsL : List He.Tab := [(fun K => He.ga K "ARGUMENTS", keysA), (fun K => He.ga K "BOUNDS", keysB)]
/-- a tuple of these stands at t -/
def isTup (K : PySem.W.Frag) (xs : List V) : Option (Option Value) → Bool
  | some (some (.ref t)) => (match K.lookup t with
    | some ⟨.type c, _, .seq its _, _⟩ => decide (c = "tuple") && (decide (its.size ≤ sizeLine) && He.relAll xs its.toList)
    | _ => false)
  | _ => false
theorem isTup_ok {K : PySem.W.Frag} {xs : List V} {o : Option (Option Value)} (h : isTup K xs o = true) : ∃ t, o = some (some (.ref t)) ∧ ∀ H, SqT K H t xs := by
  unfold isTup at h
  split at h
  · rename_i t
    split at h
    · rename_i c od its n sl e
      obtain ⟨h1, h2⟩ := He.ba h
      obtain ⟨h3, h4⟩ := He.ba h2
      exact ⟨t, rfl, fun H => .inr ⟨_, its, n, e, congrArg Value.type (of_decide_eq_true h1), rfl, of_decide_eq_true h3, He.relAll_ok h4⟩⟩
    · cases h
  · cases h
def insB (K : PySem.W.Frag) (C : Addr) : Bool := He.eqO (PySem.W.findIn K (.ref C) "__class__") (some (some (.builtin "object.__class__"))) && (He.eqO (PySem.W.specialIn K (.builtin "object.__class__") "__get__") (some (some (.builtin "getset_descriptor.__get__"))) && (decide (PySem.W.takesIn K (.builtin "object.__class__") = some true) && (decide (PySem.W.mroIn K C (.type "object") = some true) && decide (PySem.W.kitOne K (.ref C) (.ref C) = some true))))

def kindsL : List String := ["NoneType", "int", "str", "tuple", "list", "dict", "bool"]
def kitsB (K : PySem.W.Frag) : Bool := (kindsL.all fun T => decide (PySem.W.kitOne K (.type T) (.ref (cl K "ClassFile")) = some false)) && (decide (PySem.W.kitOne K (.ref (cl K "Code")) (.ref (cl K "ClassFile")) = some false) && (decide (PySem.W.kitOne K (.ref (cl K "Uncut")) (.ref (cl K "ClassFile")) = some false) && (decide (PySem.W.kitOne K (.ref (cl K "Uncut")) (.ref (cl K "Code")) = some false) && decide (PySem.W.kitOne K (.type "NoneType") (.ref (cl K "Code")) = some false))))
def apartB (K : PySem.W.Frag) : Bool := decide (cl K "ClassFile" ≠ cl K "Code") && (decide (cl K "ClassFile" ≠ cl K "Uncut") && decide (He.ga K "_is_method" ≠ He.ga K "_is_field"))
def argsB (K : PySem.W.Frag) : Bool := (two.all fun z => isTup K [] (PySem.W.nsIn K (He.ga K "ARGUMENTS") z)) && isTup K [.int (-2147483648), .int 2147483647] (PySem.W.nsIn K (He.ga K "BOUNDS") "int")
def tupL : List (Str × List Str) := [("LETTERS", ["Z", "B", "S", "C", "I", "J"]), ("OF_CLASSES", four), ("ACCESS", acc3), ("OF_FIELDS", five), ("OF_INTERFACE_FIELDS", wideF), ("NOT_WITH_ABSTRACT", nwa), ("NOT_IN_INTERFACES", nii), ("OF_INTS", ints5), ("UNCUT_WORDS", uw), ("FLAGS", flags9)]
def tupsB (K : PySem.W.Frag) : Bool := tupL.all fun q => He.tupB K q.1 (q.2.map He.Dv.str)
def exL (K : PySem.W.Frag) : Bool := tupsB K && (argsB K && (apartB K && (kitsB K && (insB K (cl K "ClassFile") && (insB K (cl K "Code") && insB K (cl K "Uncut"))))))

abbrev R : PySem.W.OpenRow := PySem.W.OpenLaw.row PySem.Challenge.rw_typegate_k48_whole_forms_of_classes
def looseL : List Str := (["is_integer", "is_within", "is_row", "is_tuple_of", "TypegateError", "NoDescriptor", "NoForm", "NoFile", "LONGEST_NAME", "LONGEST_CLASS_NAME", "MOST_BRACKETS", "MOST_PARAMETER_PLACES"] : List Str) ++ (["LETTERS", "is_name", "_is_name_sign", "is_class_name", "is_method_name", "is_field_descriptor", "is_method_descriptor", "is_type_name", "places_of", "parameters", "result", "_method_parts"] : List Str) ++ (["_field_end", "PLAIN_ENTRIES", "is_entry", "SIGNS", "is_text", "LONGEST_STRING", "ARGUMENTS", "BOUNDS", "is_instruction", "_has_sort", "_is_told", "_is_pair"] : List Str) ++ (["is_string", "_agrees", "ascends", "has_right_pairs", "targets", "kept", "FLAGS", "UNCUT_WORDS", "MOST_PLACES", "MOST_ROWS", "MOST_ENTRIES", "LEAST_LONG"] : List Str) ++ (["GREATEST_LONG", "ClassFile", "Code", "Uncut", "_kept_interfaces", "_is_row_of_flags", "_in_order", "_kept_members", "_is_field", "_is_constant", "_is_method", "_kept_rows"] : List Str) ++ (["_kept_handlers", "_is_handler", "_kept_frames", "_is_frame", "_is_row_of_entries", "ACCESS", "OF_CLASSES", "OF_FIELDS", "OF_INTERFACE_FIELDS", "NOT_WITH_ABSTRACT", "NOT_IN_INTERFACES", "OF_INTS"] : List Str) ++ (["fault", "_fault_of_class", "_has_class_flags", "_has_right_parent", "_stand_ahead", "_fault_of_fields", "_has_field_flags", "_has_one_access", "_has_right_constant", "_fault_of_methods", "_word_for_method", "_has_method_flags"] : List Str) ++ (["_may_stand_in_interface", "_has_right_result", "_has_code_as_told", "_has_room", "_law_well", "_law_draw", "_law_one", "_law_words", "_law_all_words", "_law_flags", "_law_field", "_law_method"] : List Str) ++ (["_law_plan", "_law_class_due", "_law_accesses", "_law_fits", "_law_field_due", "_law_flags_bad", "_law_method_due", "_law_due", "_law_made", "_law_right", "_law_said"] : List Str)

def asL : List Addr := ([3, 6, 4, 21, 28, 35, 42, 52, 65, 84, 96, 99, 104, 111, 116, 123, 130, 137, 144, 149, 156, 163, 170, 177, 178, 185, 190, 191, 304, 314, 319, 326, 333, 340, 347, 352, 357, 362, 369, 370] : List Addr) ++ ([371, 395, 423, 451, 462, 467, 472, 477, 484, 491, 498, 503, 510, 517, 522, 529, 534, 535, 536, 537, 538, 539, 540, 541, 548, 555, 560, 567, 574, 579, 584, 589, 596, 601, 608, 613, 618, 625, 632, 639] : List Addr) ++ ([646, 653, 660, 667, 674, 681, 688, 695, 700, 705, 710, 717, 722, 727, 732, 739, 744, 751, 758, 765, 0, 20, 27, 34, 41, 51, 64, 83, 95, 103, 110, 115, 122, 129, 136, 143, 148, 155, 162, 169] : List Addr) ++ ([176, 184, 189, 192, 193, 194, 195, 196, 197, 198, 199, 200, 201, 202, 203, 204, 205, 206, 207, 208, 210, 211, 212, 213, 214, 215, 216, 217, 218, 219, 220, 221, 222, 223, 224, 225, 226, 228, 229, 230] : List Addr) ++ ([231, 232, 233, 234, 235, 236, 237, 238, 239, 240, 241, 242, 243, 244, 246, 247, 248, 249, 250, 251, 252, 253, 254, 255, 256, 257, 258, 259, 260, 261, 262, 264, 265, 266, 267, 268, 269, 270, 271, 272] : List Addr) ++ ([273, 274, 275, 276, 277, 278, 279, 280, 282, 283, 284, 285, 286, 287, 288, 289, 290, 291, 292, 293, 294, 295, 296, 297, 298, 300, 301, 302, 303, 305, 306, 307, 308, 309, 313, 318, 325, 332, 339, 346] : List Addr) ++ ([351, 356, 361, 368, 394, 422, 450, 461, 466, 471, 476, 483, 490, 497, 502, 509, 516, 521, 528, 533, 547, 554, 559, 566, 573, 578, 583, 588, 595, 600, 607, 612, 617, 624, 631, 638, 645, 652, 659, 666] : List Addr) ++ ([673, 680, 687, 694, 699, 704, 709, 716, 721, 726, 731, 738, 743, 750, 757, 764, 15, 16, 17, 18, 19, 22, 23, 24, 25, 26, 29, 30, 31, 32, 33, 36, 37, 38, 39, 40, 50, 53, 63, 81] : List Addr) ++ ([82, 94, 100, 101, 102, 105, 106, 107, 108, 109, 112, 113, 114, 117, 118, 119, 120, 121, 124, 125, 126, 127, 128, 131, 132, 133, 134, 135, 138, 139, 140, 141, 142, 145, 146, 147, 150, 151, 152, 153] : List Addr) ++ ([154, 157, 158, 159, 160, 161, 164, 165, 166, 167, 168, 171, 172, 173, 174, 175, 179, 180, 181, 182, 183, 186, 187, 188, 310, 311, 312, 315, 316, 317, 320, 321, 322, 323, 324, 327, 328, 329, 330, 331] : List Addr) ++ ([334, 335, 336, 337, 338, 341, 342, 343, 344, 345, 348, 349, 350, 353, 354, 355, 358, 359, 360, 363, 364, 365, 366, 367, 385, 392, 393, 396, 397, 413, 420, 421, 424, 425, 441, 448, 449, 452, 453, 456] : List Addr) ++ ([457, 458, 459, 460, 463, 464, 465, 468, 469, 470, 473, 474, 475, 478, 479, 480, 481, 482, 485, 486, 487, 488, 489, 492, 493, 494, 495, 496, 499, 500, 501, 504, 505, 506, 507, 508, 511, 512, 513, 514] : List Addr) ++ ([515, 518, 519, 520, 523, 524, 525, 526, 527, 530, 531, 532, 542, 543, 544, 545, 546, 549, 550, 551, 552, 553, 556, 557, 558, 561, 562, 563, 564, 565, 568, 569, 570, 571, 572, 575, 576, 577, 580, 581] : List Addr) ++ ([582, 585, 586, 587, 590, 591, 592, 593, 594, 597, 598, 599, 602, 603, 604, 605, 606, 609, 610, 611, 614, 615, 616, 619, 620, 621, 622, 623, 626, 627, 628, 629, 630, 633, 634, 635, 636, 637, 640, 641] : List Addr) ++ ([642, 643, 644, 647, 648, 649, 650, 651, 654, 655, 656, 657, 658, 661, 662, 663, 664, 665, 668, 669, 670, 671, 672, 675, 676, 677, 678, 679, 682, 683, 684, 685, 686, 689, 690, 691, 692, 693, 696, 697] : List Addr) ++ ([698, 701, 702, 703, 706, 707, 708, 711, 712, 713, 714, 715, 718, 719, 720, 723, 724, 725, 728, 729, 730, 733, 734, 735, 736, 737, 740, 741, 742, 745, 746, 747, 748, 749, 752, 753, 754, 755, 756, 759] : List Addr) ++ ([760, 761, 762, 763, 80, 384, 391, 412, 419, 440, 447] : List Addr)
abbrev AlQ : Type := He.AlT × Bool
def obsG (g : Addr → Option Obj) : AlQ := (He.obsT faL fnL tsL (He.frT g asL), exL (He.frT g asL))
def obsQ (s : Shared) : AlQ := match HandSHeadRun.putAll s.heap.objs.toList .nil 0 with
  | some (t, n) => obsG (HandSHeadRun.getT ⟨t, n, s.heap.life, s.gens, s.drawn, s.toks, s.os⟩)
  | none => obsG s.heap.get?
theorem obsQ_eq (s : Shared) : obsQ s = obsG s.heap.get? := by
  unfold obsQ
  cases e : HandSHeadRun.putAll s.heap.objs.toList .nil 0 with
  | none => rfl
  | some r =>
    obtain ⟨t, n⟩ := r
    have h : HandSHeadRun.getT ⟨t, n, s.heap.life, s.gens, s.drawn, s.toks, s.os⟩ = s.heap.get? := by
      funext a
      rw [HandSHeadRun.getT_eq]
      show (PySem.W.absHeap t n s.heap.life).get? a = _
      rw [HandSHeadRun.putAll_heap e]
    show obsG _ = _
    rw [h]
def SaysQ (w : World) (h : Heap) : Prop := ∃ K : PySem.W.Frag, K.In h ∧ He.SaysT faL fnL tsL w K ∧ exL K = true
def hkT : PySem.W.Hook where
  α := AlQ
  obs := obsQ
  val := fun w => (He.valT fnL tsL w, true)
  says := SaysQ
  of := fun w s e => by
    rw [obsQ_eq] at e
    exact ⟨He.frT s.heap.get? asL, He.frT_in, congrArg Prod.fst e, congrArg Prod.snd e⟩
  keeps := fun _ _ _ ⟨K, hK, c⟩ k => ⟨K, PySem.W.Frag.In.keeps hK k, c⟩
end N8H

/-! The rows of the text, and the short words. -/
namespace N8
open PySem PySem.Spec PyProof.Rows L2
def topS (i : Nat) : Stmt := PySem.Challenge.pw_typegate_k48_whole_forms_of_classes.main.body.getD i (.Pass ⟨0, 0, 0, 0⟩)
abbrev sIsName : Stmt := topS 16
theorem scIsName : FnScope ["thing", "sign"] ["thing"] (L2.defScope sIsName) := ⟨rfl, rfl, rfl, by decide +kernel, rfl, by decide +kernel, by decide +kernel⟩
abbrev sIsNameSign : Stmt := topS 17
theorem scIsNameSign : FnScope ["sign"] ["sign"] (L2.defScope sIsNameSign) := ⟨rfl, rfl, rfl, by decide +kernel, rfl, by decide +kernel, by decide +kernel⟩
abbrev sIsClassName : Stmt := topS 18
theorem scIsClassName : FnScope ["thing", "part"] ["thing"] (L2.defScope sIsClassName) := ⟨rfl, rfl, rfl, by decide +kernel, rfl, by decide +kernel, by decide +kernel⟩
abbrev sIsMethodName : Stmt := topS 19
theorem scIsMethodName : FnScope ["thing"] ["thing"] (L2.defScope sIsMethodName) := ⟨rfl, rfl, rfl, by decide +kernel, rfl, by decide +kernel, by decide +kernel⟩
abbrev sIsFieldDescriptor : Stmt := topS 20
theorem scIsFieldDescriptor : FnScope ["thing"] ["thing"] (L2.defScope sIsFieldDescriptor) := ⟨rfl, rfl, rfl, by decide +kernel, rfl, by decide +kernel, by decide +kernel⟩
abbrev sIsMethodDescriptor : Stmt := topS 21
theorem scIsMethodDescriptor : FnScope ["thing"] ["thing"] (L2.defScope sIsMethodDescriptor) := ⟨rfl, rfl, rfl, by decide +kernel, rfl, by decide +kernel, by decide +kernel⟩
abbrev sPlacesOf : Stmt := topS 23
theorem scPlacesOf : FnScope ["descriptors", "descriptor"] ["descriptors"] (L2.defScope sPlacesOf) := ⟨rfl, rfl, rfl, by decide +kernel, rfl, by decide +kernel, by decide +kernel⟩
abbrev sResult : Stmt := topS 25
theorem scResult : FnScope ["descriptor", "parts"] ["descriptor"] (L2.defScope sResult) := ⟨rfl, rfl, rfl, by decide +kernel, rfl, by decide +kernel, by decide +kernel⟩
abbrev sMethodParts : Stmt := topS 26
theorem scMethodParts : FnScope ["thing", "parts", "at", "end", "last"] ["thing"] (L2.defScope sMethodParts) := ⟨rfl, rfl, rfl, by decide +kernel, rfl, by decide +kernel, by decide +kernel⟩
abbrev sFieldEnd : Stmt := topS 27
theorem scFieldEnd : FnScope ["text", "begin", "at", "end"] ["text", "begin"] (L2.defScope sFieldEnd) := ⟨rfl, rfl, rfl, by decide +kernel, rfl, by decide +kernel, by decide +kernel⟩
abbrev sIsInteger : Stmt := topS 1
theorem scIsInteger : FnScope ["thing"] ["thing"] (L2.defScope sIsInteger) := ⟨rfl, rfl, rfl, by decide +kernel, rfl, by decide +kernel, by decide +kernel⟩
abbrev sIsWithin : Stmt := topS 2
theorem scIsWithin : FnScope ["thing", "low", "high"] ["thing", "low", "high"] (L2.defScope sIsWithin) := ⟨rfl, rfl, rfl, by decide +kernel, rfl, by decide +kernel, by decide +kernel⟩
abbrev sIsRow : Stmt := topS 3
theorem scIsRow : FnScope ["thing"] ["thing"] (L2.defScope sIsRow) := ⟨rfl, rfl, rfl, by decide +kernel, rfl, by decide +kernel, by decide +kernel⟩
abbrev sIsTupleOf : Stmt := topS 4
theorem scIsTupleOf : FnScope ["thing", "many"] ["thing", "many"] (L2.defScope sIsTupleOf) := ⟨rfl, rfl, rfl, by decide +kernel, rfl, by decide +kernel, by decide +kernel⟩
abbrev sIsText : Stmt := topS 33
theorem scIsText : FnScope ["thing", "sign"] ["thing"] (L2.defScope sIsText) := ⟨rfl, rfl, rfl, by decide +kernel, rfl, by decide +kernel, by decide +kernel⟩
abbrev sIsString : Stmt := topS 42
theorem scIsString : FnScope ["thing"] ["thing"] (L2.defScope sIsString) := ⟨rfl, rfl, rfl, by decide +kernel, rfl, by decide +kernel, by decide +kernel⟩
abbrev sKeptInterfaces : Stmt := topS 59
theorem scKeptInterfaces : FnScope ["interfaces", "number", "name"] ["interfaces"] (L2.defScope sKeptInterfaces) := ⟨rfl, rfl, rfl, by decide +kernel, rfl, by decide +kernel, by decide +kernel⟩
abbrev sIsRowOfFlags : Stmt := topS 60
theorem scIsRowOfFlags : FnScope ["thing", "word"] ["thing"] (L2.defScope sIsRowOfFlags) := ⟨rfl, rfl, rfl, by decide +kernel, rfl, by decide +kernel, by decide +kernel⟩
abbrev sInOrder : Stmt := topS 61
theorem scInOrder : FnScope ["flags", "word"] ["flags"] (L2.defScope sInOrder) := ⟨rfl, rfl, rfl, by decide +kernel, rfl, by decide +kernel, by decide +kernel⟩
abbrev sKeptMembers : Stmt := topS 62
theorem scKeptMembers : FnScope ["members", "word", "is_member", "number", "member", "name", "descriptor", "flags", "worth"] ["members", "word", "is_member"] (L2.defScope sKeptMembers) := ⟨rfl, rfl, rfl, by decide +kernel, rfl, by decide +kernel, by decide +kernel⟩
abbrev sIsField : Stmt := topS 63
theorem scIsField : FnScope ["member", "name", "descriptor", "flags", "constant"] ["member"] (L2.defScope sIsField) := ⟨rfl, rfl, rfl, by decide +kernel, rfl, by decide +kernel, by decide +kernel⟩
abbrev sIsConstant : Stmt := topS 64
theorem scIsConstant : FnScope ["thing"] ["thing"] (L2.defScope sIsConstant) := ⟨rfl, rfl, rfl, by decide +kernel, rfl, by decide +kernel, by decide +kernel⟩
abbrev sIsMethod : Stmt := topS 65
theorem scIsMethod : FnScope ["member", "name", "descriptor", "flags", "code"] ["member"] (L2.defScope sIsMethod) := ⟨rfl, rfl, rfl, by decide +kernel, rfl, by decide +kernel, by decide +kernel⟩
abbrev sLawWell : Stmt := topS 97
theorem scLawWell : FnScope ["cell"] ["cell"] (L2.defScope sLawWell) := ⟨rfl, rfl, rfl, by decide +kernel, rfl, by decide +kernel, by decide +kernel⟩
abbrev sLawDraw : Stmt := topS 98
theorem scLawDraw : FnScope ["well", "many", "digit", "number", "more"] ["well", "many"] (L2.defScope sLawDraw) := ⟨rfl, rfl, rfl, by decide +kernel, rfl, by decide +kernel, by decide +kernel⟩
abbrev sLawOne : Stmt := topS 99
theorem scLawOne : FnScope ["well", "some"] ["well", "some"] (L2.defScope sLawOne) := ⟨rfl, rfl, rfl, by decide +kernel, rfl, by decide +kernel, by decide +kernel⟩
abbrev sLawWords : Stmt := topS 100
theorem scLawWords : FnScope ["well", "words", "left", "results", "lap"] ["well", "words"] (L2.defScope sLawWords) := ⟨rfl, rfl, rfl, by decide +kernel, rfl, by decide +kernel, by decide +kernel⟩
abbrev sLawAllWords : Stmt := topS 101
theorem scLawAllWords : FnScope ["words"] [] (L2.defScope sLawAllWords) := ⟨rfl, rfl, rfl, by decide +kernel, rfl, by decide +kernel, by decide +kernel⟩

end N8

namespace N8
open PySem PySem.Spec PyProof.Rows L2 Evl
open SX (S)
abbrev FnP (K : PySem.W.Frag) (x : Str) (st : Stmt) (f : Addr) (fd : FuncData) : Prop := FunD K x x (L2.defArgs st) (L2.defBody st) (L2.defScope st) [] [] f fd
/-- a def that may be called by its name -/
structure Cl (P : Program) (w : World) (K : PySem.W.Frag) (mg : Str → Option Value) (base : Heap) (CX : CXT) (k : Nat) (x : Str) (ps : List Str) (sp : Sp) : Prop where
  ex : ∃ (f : Addr) (fd : FuncData), FnOk P w K mg base CX k f fd ps sp ∧ mg x = some (.ref f) ∧ PySem.W.keepIn K (.ref f) = true ∧ Binds K fd ps []
theorem pe_cl {X : Cx} {k j : Nat} {x : Str} {ps : List Str} {sp : Sp} {p pos : Pos} {e : Expr} {es : List Expr} {t : TA} (c : Cl X.prog X.w X.K X.mg X.base L2.CX0 k x ps sp) (hr : Room j X.A) (hk : k ≤ j) (hg : Gl X x) (ha : PA X (e :: es) t)
    (hdb : (x == ("__debug__" : Str)) = false := by decide) (he : starEach (e :: es) X.env = (false, eval e X.env) :: starEach es X.env := by rfl) (hpl : (backTo pos (starEach es X.env)).any (·.1) = false := by rfl) :
    PE X (.Call (.Name x p) (e :: es) [] pos) (tCall sp [] L2.E0 t) := by
  obtain ⟨f, fd, F, hm, hkp, hb⟩ := c.ex
  exact pe_call F (hr.mono hk) hg hm hkp hb .nil L2.pass0 ha hdb he hpl
theorem room_mono_check {A : Around} {j k : Nat} (hr : Room j A) (hk : k ≤ j) : Room k A := hr.mono hk
/-- the built-ins that the text uses -/
structure Bt (mg : Str → Option Value) : Prop where
  isi : mg "isinstance" = none
  str : mg "str" = none
  len : mg "len" = none
  all : mg "all" = none
  sum : mg "sum" = none
  int : mg "int" = none
  range : mg "range" = none
  bool : mg "bool" = none
  list : mg "list" = none
  tuple : mg "tuple" = none
  set : mg "set" = none
  ord : mg "ord" = none
  sorted : mg "sorted" = none
  enumerate : mg "enumerate" = none
  any : mg "any" = none
  max : mg "max" = none
  zip : mg "zip" = none
/-! ### numbers of signs -/
theorem lt1 (a b : Nat) : ([a] < [b]) ↔ a < b := by
  constructor
  · intro h
    cases h with
    | rel h => exact h
    | cons h => cases h
  · intro h
    exact List.Lex.rel h
theorem le1 (a b : Nat) : (!decide ([b] < [a])) = decide (a ≤ b) := by
  by_cases h : a ≤ b
  · rw [decide_eq_true h, decide_eq_false (fun q => by have := (lt1 b a).mp q; omega)]; rfl
  · rw [decide_eq_false h, decide_eq_true ((lt1 b a).mpr (by omega))]; rfl
/-- a sign of a name -/
def isSign (c : Nat) : Bool := (decide (97 ≤ c) && decide (c ≤ 122)) || ((decide (65 ≤ c) && decide (c ≤ 90)) || ((decide (48 ≤ c) && decide (c ≤ 57)) || (decide (c = 95) || decide (c = 36))))
def isNameL (l : List Nat) : Bool := (decide (1 ≤ l.length) && decide (l.length ≤ 30)) && l.all isSign
def isClassL (l : List Nat) : Bool := decide (l.length ≤ 60) && (TL.spl [47] 0 [] l).all isNameL
/-! ### what readings come to -/
section
variable {K : PySem.W.Frag} {σ : L2.St} {H H' : Hp} {ta tb tc te : TE} {t u : TT} {x y z v : V}
theorem ev_chain {r r' : R2} {a b : Bool} (ha : Ev ta σ H x) (hb : Ev tb σ H y) (h1 : RV r x y H (.bl a)) (h2 : a = true → Ev tc σ H z ∧ RV r' y z H (.bl b)) : Ev (tChain r r' ta tb tc) σ H (.bl (a && b)) := fun H1 e Q q =>
  ha H1 e _ fun H2 e2 => hb H2 (e.trans e2) _ fun H3 e3 => h1 H3 ((e.trans e2).trans e3) _ fun H4 e4 => ⟨a, rfl, by
    cases a with
    | true =>
      obtain ⟨hc, hr⟩ := h2 rfl
      have e5 := ((e.trans e2).trans e3).trans e4
      show tc σ H4 fun w' H5 => r' y w' H5 Q
      exact hc H4 e5 _ fun H5 e6 => hr H5 (e5.trans e6) _ fun H6 e7 => q H6 ((((e2.trans e3).trans e4).trans e6).trans e7)
    | false =>
      show Q (.bl false) H4
      exact q H4 ((e2.trans e3).trans e4)⟩
abbrev rLeS : R2 := fun x y H Q => ∃ i j, x = V.str i ∧ y = V.str j ∧ Q (V.bl !decide (j.cps.toList < i.cps.toList)) H
theorem rv_leS {a b : Nat} {z1 z2 : Str} (e1 : z1 = S [a]) (e2 : z2 = S [b]) : RV rLeS (.str z1) (.str z2) H (.bl (decide (a ≤ b))) := fun H1 _ Q q => by
  subst e1 e2
  refine ⟨_, _, rfl, rfl, ?_⟩
  have f : (!decide ((S [b]).cps.toList < (S [a]).cps.toList)) = decide (a ≤ b) := le1 a b
  rw [f]
  exact q H1 (Ex.refl H1)
theorem inV_sign {c : Nat} : ∀ {zs : List Nat}, inV (V.str (S [c])) (zs.map fun a => V.str (S [a])) = zs.any fun a => decide (c = a)
  | [] => rfl
  | a :: r => by
    have h : eqV (V.str (S [a])) (V.str (S [c])) = decide (c = a) := by
      show (S [a] == S [c]) = _
      rw [SX.S_beq_eq]
      by_cases e : c = a
      · subst e
        rw [decide_eq_true rfl, decide_eq_true rfl]
      · rw [decide_eq_false e, decide_eq_false (fun q => e (by injection q with q _; exact q.symm))]
    show (eqV (V.str (S [a])) (V.str (S [c])) || inV (V.str (S [c])) (r.map fun a => V.str (S [a]))) = (decide (c = a) || r.any fun a => decide (c = a))
    rw [h, inV_sign]
/-- not a text -/
def NoStr (K : PySem.W.Frag) (H : Hp) (x : V) : Prop := ∃ T : String, TyX K H x (.type T) ∧ kitB T "str" = some false
theorem TyOf.ex {t : Value} (e : Ex H H') (h : TyOf K H x t) : TyOf K H' x t := by
  cases h with
  | non => exact .non
  | bl b => exact .bl b
  | int i => exact .int i
  | str z => exact .str z
  | flt b => exact .flt b
  | lst h => exact .lst (e _ _ h)
  | frz h => exact .frz (e _ _ h)
  | tup h => exact .tup (e _ _ h)
  | dK h => exact .dK (e _ _ h)
  | dT h => exact .dT (e _ _ h)
  | ins h a b c d f => exact .ins (e _ _ h) a b c d f
theorem TyX.ex {t : Value} (e : Ex H H') (h : TyX K H x t) : TyX K H' x t := by
  cases h with
  | base h => exact .base (TyOf.ex e h)
  | byt b => exact .byt b
  | set h => exact .set (e _ _ h)
  | kList a b => exact .kList a b
  | kTuple a b => exact .kTuple a b
  | kDict a b => exact .kDict a b
  | fTuple h => exact .fTuple (e _ _ h)
  | fDict h => exact .fDict (e _ _ h)
theorem NoStr.ex (e : Ex H H') (h : NoStr K H x) : NoStr K H' x := by
  obtain ⟨T, a, b⟩ := h
  exact ⟨T, TyX.ex e a, b⟩
theorem ev_isi {T U : String} {b : Bool} (h : Ev te σ H x) (ty : TyX K H x (.type T)) (k : kitB T U = some b) : Ev (tCB (rIsi K) (tCons te (tCons (tC (.ty U)) tNil))) σ H (.bl b) := fun H1 e Q q =>
  h H1 e _ fun H2 e2 => ⟨x, .ty U, .type T, .type U, b, rfl, .ty U, TyX.ex (e.trans e2) ty, kit_ty k, q H2 e2⟩
theorem ev_isStr {l : Str} (h : Ev te σ H (.str l)) : Ev (tCB (rIsi K) (tCons te (tCons (tC (.ty "str")) tNil))) σ H (.bl true) := ev_isi h (.base (.str l)) (by decide +kernel)
theorem ev_noStr (h : Ev te σ H x) (n : NoStr K H x) : Ev (tCB (rIsi K) (tCons te (tCons (tC (.ty "str")) tNil))) σ H (.bl false) := by
  obtain ⟨T, a, b⟩ := n
  exact ev_isi h a b
abbrev rLenT : List V → Hp → VK → Prop := fun xs H Q => ∃ z, xs = [.str z] ∧ z.length ≤ sizeLine ∧ Q (.int z.length) H
theorem ev_lenS {l : List Nat} (h : Ev te σ H (.str (S l))) (hl : l.length ≤ 40000) : Ev (tCB rLenT (tCons te tNil)) σ H (.int (l.length : Int)) := fun H1 e Q q =>
  h H1 e _ fun H2 e2 => ⟨S l, rfl, by rw [SX.S_len]; exact sz_of (by omega), by rw [SX.S_len]; exact q H2 e2⟩
theorem ev_all {bs : List Bool} (h : EvL te σ H (bs.map V.bl)) : Ev (tCB (rAll K) (tCons te tNil)) σ H (.bl (bs.all id)) := fun H1 e Q q =>
  h H1 e _ fun p H2 hp e2 h2 => ⟨p, bs, rfl, sq_of h2, q H2 e2⟩
theorem ev_sum {ns : List Int} (h : EvL te σ H (ns.map V.int)) : Ev (tCB (rSum K) (tCons te tNil)) σ H (.int ns.sum) := fun H1 e Q q =>
  h H1 e _ fun p H2 hp e2 h2 => ⟨p, ns, rfl, sq_of h2, q H2 e2⟩
/-- a comprehension over a text -/
theorem el_lcS {l : List Nat} {tl : TE} {j : Nat} {vs : List Nat} (f : Nat → Bool) (v : Nat → V) (h : Ev tl σ H (.str (S l))) (hz : l.length ≤ 40000) (hw : ∀ x, wipe ((wipe σ vs).set j (some x)) vs = wipe σ vs)
    (ht : ∀ (i c : Nat) H1, Ex H H1 → l[i]? = some c → EvT t ((wipe σ vs).set j (some (.str (S [c])))) H1 (f i)) (he : ∀ (i c : Nat) H1, Ex H H1 → l[i]? = some c → f i = true → Ev te ((wipe σ vs).set j (some (.str (S [c])))) H1 (v i)) :
    EvL (tLc (iStr tl) (gName j) t te vs) σ H (given l.length f v) := fun H0 e Q q => h H0 e _ fun H1 e1 => ⟨S l, rfl, fun Dl hD =>
  lc_it (n := l.length) (walk_str (z := S l)) (Cw H1 f v Dl) ⟨hD, Ex.new hD, upd_same⟩ (fun _ _ _ _ => True.intro) (fun i x H' H2 hi p y => by
    obtain ⟨rfl, c, hc, rfl⟩ := y
    have hc2 : l[i]? = some c := by
      have : (S l).cps[i]? = l[i]? := by simp [S]
      rw [← this]
      exact hc
    exact ⟨hw _, cw_turn p (by omega) (ht i c H1 (e.trans e1) hc2) (fun hf => he i c H1 (e.trans e1) hc2 hf)⟩)
    (fun H' p => q Dl H' (fresh_back e1 p.1) (e1.trans p.2.1) p.2.2)⟩
theorem given_all {α : Type} (l : List α) (g : α → V) (v : Nat → V) (h : ∀ i c, l[i]? = some c → v i = g c) : given l.length (fun _ => true) v = l.map g := by
  unfold given
  rw [List.filter_eq_self.mpr (fun _ _ => rfl)]
  refine List.ext_getElem? fun i => ?_
  rw [List.getElem?_map, List.getElem?_map]
  by_cases hi : i < l.length
  · rw [List.getElem?_range hi, List.getElem?_eq_getElem hi]
    exact congrArg some (h i _ (List.getElem?_eq_getElem hi))
  · rw [List.getElem?_eq_none (by rw [List.length_range]; omega), List.getElem?_eq_none (by omega)]
    rfl
end
section
variable {P : Program} {w : World} {K : PySem.W.Frag} {mg : Str → Option Value} {base : Heap}
def spSign : Sp := fun vs H Q _ => ∃ c : Nat, vs = [.str (S [c])] ∧ RetV (.bl (isSign c)) H Q
theorem ok_sign {f : Addr} {fd : FuncData} (F : FnP K "_is_name_sign" sIsNameSign f fd) : FnOk P w K mg base L2.CX0 1 f fd ["sign"] spSign := by
  refine F.ok scIsNameSign (fun vs H Q E h => ?_) (fun cdv A outer s H vs Q E hr h => ?_)
  · obtain ⟨c, rfl, _⟩ := h
    rfl
  · obtain ⟨c, rfl, q⟩ := h
    refine ⟨_, pss_one (ps_ret (pe_or (pe_chain op_le_str op_le_str pe_str (pv 0) pe_str) (pe_or (pe_chain op_le_str op_le_str pe_str (pv 0) pe_str) (pe_or (pe_chain op_le_str op_le_str pe_str (pv 0) pe_str) (pe_one (pe_cmpR op_in_seq (pv 0) (pe_tup (pa_cons pe_str (pa_cons pe_str pa_nil))) rfl)))))), ?_⟩
    refine s_ret (v := .bl (isSign c)) ?_ q
    refine ev_orV (ev_chain ev_c (ev_var rfl) (rv_leS (a := 97) (by decide +kernel) rfl) fun _ => ⟨ev_c, rv_leS (b := 122) rfl (by decide +kernel)⟩) fun _ => ?_
    refine ev_orV (ev_chain ev_c (ev_var rfl) (rv_leS (a := 65) (by decide +kernel) rfl) fun _ => ⟨ev_c, rv_leS (b := 90) rfl (by decide +kernel)⟩) fun _ => ?_
    refine ev_orV (ev_chain ev_c (ev_var rfl) (rv_leS (a := 48) (by decide +kernel) rfl) fun _ => ⟨ev_c, rv_leS (b := 57) rfl (by decide +kernel)⟩) fun _ => ?_
    refine ev_is (ev_inU (ev_var rfl) (eu_tup (ea_cons ev_c (ea_cons ev_c ea_nil)) (by decide)) rfl rfl) ?_
    have e : [V.str (Str.ofString "_"), V.str (Str.ofString "$")] = [95, 36].map fun a => V.str (S [a]) := by decide +kernel
    rw [e, inV_sign]
    simp [List.any]
end
end N8

namespace N8
open PySem PySem.Spec PyProof.Rows L2 Evl
open SX (S)
section
variable {K : PySem.W.Frag} {σ : L2.St} {H H' : Hp} {ta tb tc te : TE} {t u : TT} {x y z v : V}
/-- a text, of which f tells b; or no text -/
def Told (K : PySem.W.Frag) (H : Hp) (x : V) (f : List Nat → Bool) (b : Bool) : Prop := (∃ l, x = .str (S l) ∧ l.length ≤ 20000 ∧ b = f l) ∨ (NoStr K H x ∧ b = false)
theorem Told.ex {f : List Nat → Bool} {b : Bool} (e : Ex H H') (h : Told K H x f b) : Told K H' x f b := by
  rcases h with h | ⟨h, e2⟩
  · exact .inl h
  · exact .inr ⟨NoStr.ex e h, e2⟩
theorem rv_le {i j : Int} : RV (rI0 fun i j => .bl (decide (i ≤ j))) (.int i) (.int j) H (.bl (decide (i ≤ j))) := rv_I0
theorem rv_is {r : R2} (h : RV r x y H z) (e : z = v) : RV r x y H v := e ▸ h
theorem bl_iff {p q : Prop} [Decidable p] [Decidable q] (h : p ↔ q) : V.bl (decide p) = V.bl (decide q) := congrArg V.bl (decide_eq_decide.mpr h)
theorem all_map {α : Type} (l : List α) (f : α → Bool) : (l.map f).all id = l.all f := by
  rw [List.all_map]; rfl
theorem map_bl {α : Type} (l : List α) (f : α → Bool) : l.map (fun c => V.bl (f c)) = (l.map f).map V.bl := by
  rw [List.map_map]; rfl
theorem getD_of {α : Type} {l : List α} {i : Nat} {c d : α} (h : l[i]? = some c) : l.getD i d = c := by
  rw [List.getD_eq_getElem?_getD, h]; rfl
end
section
variable {P : Program} {w : World} {K : PySem.W.Frag} {mg : Str → Option Value} {base : Heap}
def spName (K : PySem.W.Frag) (f : List Nat → Bool) : Sp := fun vs H Q _ => ∃ (x : V) (b : Bool), vs = [x] ∧ Told K H x f b ∧ RetV (.bl b) H Q
theorem ok_isName {f : Addr} {fd : FuncData} (F : FnP K "is_name" sIsName f fd) (B : Bt mg) (c1 : Cl P w K mg base L2.CX0 1 "_is_name_sign" ["sign"] spSign) (g30 : ∃ t, mg "LONGEST_NAME" = some (.int 30 t)) :
    FnOk P w K mg base L2.CX0 2 f fd ["thing"] (spName K isNameL) := by
  obtain ⟨t30, g30⟩ := g30
  refine F.ok scIsName (fun vs H Q E h => ?_) (fun cdv A outer s H vs Q E hr h => ?_)
  · obtain ⟨x, b, rfl, _⟩ := h
    rfl
  · obtain ⟨x, b, rfl, hx, q⟩ := h
    refine ⟨_, pss_cons (ps_if (PW.pt (pw_or (pt_not (pt_val (pe_callB call_isi (by rfl) B.isi (by decide +kernel) (pa_cons (pv 0) (pa_cons (pe_bltn (v := .ty "str") (by rfl) B.str (by decide +kernel) rfl) pa_nil)))))
        (pw_or1 (pt_not (pt_chain op_le op_le pe_int (pe_callB call_len_str (by rfl) B.len PySem.boot_len (pa_cons (pv 0) pa_nil)) (pe_glob (v := .int 30) (by rfl) g30 ⟨_, rfl⟩))))))
        (pss_one (ps_ret pe_bl)) pss_nil)
      (pss_one (ps_ret (pe_callB (cr_all rfl) (by rfl) B.all (by decide +kernel) (pa_cons (pe_lc (own := [("sign", 1)]) (g := gName 1) (tt := tYes) rfl scIsName.nd (pi_str (pv 0)) (blkOk_by (N := ["thing", "sign"]) (sc := L2.defScope sIsName) (by decide +kernel)) (fun _ _ _ _ _ => pg_name (i := 1) scIsName.nd rfl (Or.inl rfl)) (fun _ _ _ _ _ => pts_nil)
        (fun _ _ _ _ _ => pe_cl c1 hr (by decide) (by rfl) (pa_cons (pv 1) pa_nil))) pa_nil)))), ?_⟩
    rcases hx with ⟨l, rfl, hl, rfl⟩ | ⟨hn, rfl⟩
    · refine q_when (b := !(decide (1 ≤ l.length) && decide (l.length ≤ 30))) ?_ (fun e H1 x1 => ?_) (fun e H1 x1 => ?_)
      · refine et_is (et_or (et_not (et_B (ev_isStr (ev_var rfl)))) fun _ => et_not (et_test (ev_chain (a := decide (1 ≤ l.length)) (b := decide (l.length ≤ 30)) ev_c (ev_lenS (ev_var rfl) (by omega)) ?_ fun _ => ⟨ev_c, ?_⟩))) ?_
        · exact rv_is rv_le (bl_iff (by omega))
        · exact rv_is rv_le (bl_iff (by omega))
        · rfl
      · refine s_ret (v := .bl (isNameL l)) (ev_is ev_c ?_) (fun H2 x2 => q H2 (x1.trans x2))
        unfold isNameL
        rw [Bool.not_eq_true'] at e
        rw [e]; rfl
      · refine s_ret (v := .bl (isNameL l)) (ev_is (ev_all (bs := l.map isSign) ?_) ?_) (fun H2 x2 => q H2 (x1.trans x2))
        · rw [Bool.not_eq_false'] at e
          have el : l.length ≤ 30 := by
            have := (Bool.and_eq_true_iff.mp e).2
            exact of_decide_eq_true this
          rw [← map_bl, ← given_all l (fun c => V.bl (isSign c)) (fun i => .bl (isSign (l.getD i 0))) (fun i c h => by rw [getD_of h])]
          refine el_lcS (fun _ => true) _ (ev_var rfl) (by omega) (fun _ => rfl) (fun i c H2 _ hc => fun H3 e3 Q q => q H3 (Ex.refl H3)) (fun i c H2 _ hc _ => ?_)
          rw [getD_of hc]
          exact ev_call (ea_cons (ev_var rfl) ea_nil) (fun H3 e3 Q q E => ⟨c, rfl, q⟩)
        · rw [Bool.not_eq_false'] at e
          unfold isNameL
          rw [e, all_map]; rfl
    · refine q_when (b := true) ?_ (fun e H1 x1 => ?_) (fun e H1 x1 => by cases e)
      · exact et_is (et_or (b := false) (et_not (et_B (ev_noStr (ev_var rfl) hn))) fun e => by cases e) rfl
      · exact s_ret ev_c (fun H2 x2 => q H2 (x1.trans x2))
end
end N8

namespace N8
open PySem PySem.Spec PyProof.Rows L2 Evl
open SX (S)
theorem spl_len (c : Nat) : ∀ (l acc : List Nat) (p : List Nat), p ∈ TL.spl [c] 0 acc l → p.length ≤ acc.length + l.length
  | [], acc, p, h => by
    rw [TL.spl_nil] at h
    rw [List.mem_singleton.mp h]
    exact Nat.le_add_right _ _
  | d :: r, acc, p, h => by
    cases hp : TL.pre [c] (d :: r) with
    | true =>
      rw [TL.spl_hit hp] at h
      rcases List.mem_cons.mp h with rfl | h
      · exact Nat.le_add_right _ _
      · have := spl_len c r [] p h
        simp only [List.length_nil, List.length_cons] at this ⊢
        omega
    | false =>
      rw [TL.spl_miss hp] at h
      have := spl_len c r (acc ++ [d]) p h
      simp only [List.length_append, List.length_nil, List.length_cons] at this ⊢
      omega
theorem spl_num (c : Nat) : ∀ (l acc : List Nat), (TL.spl [c] 0 acc l).length ≤ 1 + l.length
  | [], acc => by
    rw [TL.spl_nil]
    exact Nat.le_refl _
  | d :: r, acc => by
    cases hp : TL.pre [c] (d :: r) with
    | true =>
      rw [TL.spl_hit hp, show TL.spl [c] ([c].length - 1) [] r = TL.spl [c] 0 [] r from rfl, List.length_cons, List.length_cons]
      have := spl_num c r []
      omega
    | false =>
      rw [TL.spl_miss hp]
      have := spl_num c r (acc ++ [d])
      simp only [List.length_cons] at this ⊢
      omega
section
variable {K : PySem.W.Frag} {σ : L2.St} {H H' : Hp} {ta tb tc te : TE} {t u : TT} {x y z v : V}
abbrev rSplit : V → List V → Hp → VK → Prop := fun x xs H Q => ∃ a b, x = .str a ∧ xs = [.str b] ∧ (b.length == 0) = false ∧ a.length + 2 ≤ sizeLine ∧ rNewStrs (Txt.split a b) H Q
theorem el_split {l : List Nat} {z : Str} {c : Nat} (ez : z = S [c]) (hc : c < 256) (h : Ev ta σ H (.str (S l))) (hl : l.length ≤ 40000) : EvL (tM1 rSplit ta (tC (.str z))) σ H ((TL.spl [c] 0 [] l).map fun p => .str (S p)) := fun H1 e Q q =>
  h H1 e _ fun H2 e2 => ⟨⟨_, rfl⟩, S l, z, rfl, rfl, by subst ez; rfl, by rw [SX.S_len]; exact sz_of (by omega), fun p hp => q p _ (fresh_back e2 hp) (e2.trans (Ex.new hp)) (by
    subst ez
    rw [SX.split_S (by simp) (by simp [hc]), List.map_map, upd_same]
    rfl)⟩
end
section
variable {P : Program} {w : World} {K : PySem.W.Frag} {mg : Str → Option Value} {base : Heap}
theorem ok_isClass {f : Addr} {fd : FuncData} (F : FnP K "is_class_name" sIsClassName f fd) (B : Bt mg) (c1 : Cl P w K mg base L2.CX0 2 "is_name" ["thing"] (spName K isNameL)) (g60 : ∃ t, mg "LONGEST_CLASS_NAME" = some (.int 60 t)) :
    FnOk P w K mg base L2.CX0 3 f fd ["thing"] (spName K isClassL) := by
  obtain ⟨t60, g60⟩ := g60
  refine F.ok scIsClassName (fun vs H Q E h => ?_) (fun cdv A outer s H vs Q E hr h => ?_)
  · obtain ⟨x, b, rfl, _⟩ := h
    rfl
  · obtain ⟨x, b, rfl, hx, q⟩ := h
    refine ⟨_, pss_cons (ps_if (PW.pt (pw_or (pt_not (pt_val (pe_callB call_isi (by rfl) B.isi (by decide +kernel) (pa_cons (pv 0) (pa_cons (pe_bltn (v := .ty "str") (by rfl) B.str (by decide +kernel) rfl) pa_nil)))))
        (pw_or1 (pt_cmpR op_gt (pe_callB call_len_str (by rfl) B.len PySem.boot_len (pa_cons (pv 0) pa_nil)) (pe_glob (v := .int 60) (by rfl) g60 ⟨_, rfl⟩) (nomark _)))))
        (pss_one (ps_ret pe_bl)) pss_nil)
      (pss_one (ps_ret (pe_callB (cr_all rfl) (by rfl) B.all (by decide +kernel) (pa_cons (pe_lc (own := [("part", 1)]) (g := gName 1) (tt := tYes) rfl scIsClassName.nd (pi_list (pe_split (pv 0) pe_str)) (blkOk_by (N := ["thing", "part"]) (sc := L2.defScope sIsClassName) (by decide +kernel)) (fun _ _ _ _ _ => pg_name (i := 1) scIsClassName.nd rfl (Or.inl rfl)) (fun _ _ _ _ _ => pts_nil)
        (fun _ _ _ _ _ => pe_cl c1 hr (by decide) (by rfl) (pa_cons (pv 1) pa_nil))) pa_nil)))), ?_⟩
    rcases hx with ⟨l, rfl, hl, rfl⟩ | ⟨hn, rfl⟩
    · refine q_when (b := !decide (l.length ≤ 60)) ?_ (fun e H1 x1 => ?_) (fun e H1 x1 => ?_)
      · refine et_is (et_or (et_not (et_B (ev_isStr (ev_var rfl)))) fun _ => et_test (b := !decide (l.length ≤ 60)) (ev_op (ev_lenS (ev_var rfl) (by omega)) ev_c (rv_is rv_I0 ?_))) ?_
        · refine congrArg V.bl ?_
          rw [← decide_not]
          exact decide_eq_decide.mpr (by omega)
        · rfl
      · refine s_ret (v := .bl (isClassL l)) (ev_is ev_c ?_) (fun H2 x2 => q H2 (x1.trans x2))
        unfold isClassL
        rw [Bool.not_eq_true'] at e
        rw [e]; rfl
      · rw [Bool.not_eq_false'] at e
        have el : l.length ≤ 60 := of_decide_eq_true e
        refine s_ret (v := .bl (isClassL l)) (ev_is (ev_all (bs := (TL.spl [47] 0 [] l).map isNameL) ?_) ?_) (fun H2 x2 => q H2 (x1.trans x2))
        · rw [← map_bl, ← given_all (TL.spl [47] 0 [] l) (fun p => V.bl (isNameL p)) (fun i => .bl (isNameL ((TL.spl [47] 0 [] l).getD i []))) (fun i c h => by rw [getD_of h])]
          have e2 := el_lcNL (K := K) (σ := start ["thing", "part"] [V.str (S l)]) (H := H1) (te := tCall (spName K isNameL) [] L2.E0 (tCons (tVar 1) tNil)) (t := tYes) (j := 1) (vs := [1]) (fun _ => true) (fun i => .bl (isNameL ((TL.spl [47] 0 [] l).getD i []))) (el_split (ta := tVar 0) (z := "/") (c := 47) (by decide +kernel) (by decide) (ev_var rfl) (by omega))
            (by rw [List.length_map]; have := spl_num 47 l []; omega) (fun _ => rfl) (fun i c H2 _ hc => fun H3 e3 Q q => q H3 (Ex.refl H3)) (fun i c H2 x2 hc _ => by
              rw [List.getElem?_map] at hc
              cases hp : (TL.spl [47] 0 [] l)[i]? with
              | none => rw [hp] at hc; cases hc
              | some p =>
                rw [hp] at hc
                cases hc
                rw [getD_of hp]
                exact ev_call (ea_cons (ev_var rfl) ea_nil) (fun H3 e3 Q q E => ⟨_, _, rfl, .inl ⟨p, rfl, by have := spl_len 47 l [] p (List.mem_of_getElem? hp); simp at this; omega, rfl⟩, q⟩))
          rw [List.length_map] at e2
          exact e2
        · unfold isClassL
          rw [e, all_map]; rfl
    · refine q_when (b := true) ?_ (fun e H1 x1 => ?_) (fun e H1 x1 => by cases e)
      · exact et_is (et_or (b := false) (et_not (et_B (ev_noStr (ev_var rfl) hn))) fun e => by cases e) rfl
      · exact s_ret ev_c (fun H2 x2 => q H2 (x1.trans x2))
end
end N8

namespace N8
open PySem PySem.Spec PyProof.Rows L2 Evl
open SX (S)
/-! ### parts of texts -/
def sub (l : List Nat) (i j : Nat) : List Nat := (l.drop i).take (j - i)
theorem cut_core (l : List Nat) (i j : Nat) : (l.drop (min i l.length)).take (min j l.length - min i l.length) = sub l i j := by
  unfold sub
  refine List.ext_getElem? fun k => ?_
  rw [List.getElem?_take, List.getElem?_take, List.getElem?_drop, List.getElem?_drop]
  by_cases hi : i ≤ l.length
  · rw [Nat.min_eq_left hi]
    by_cases hj : j ≤ l.length
    · rw [Nat.min_eq_left hj]
    · rw [Nat.min_eq_right (by omega)]
      by_cases hk : i + k < l.length
      · rw [if_pos (by omega), if_pos (by omega)]
      · rw [List.getElem?_eq_none (l := l) (i := i + k) (by omega)]
        simp
  · rw [show min i l.length = l.length by omega]
    rw [if_neg (by omega), List.getElem?_eq_none (l := l) (i := i + k) (by omega)]
    simp
theorem cut_nat (l : List Nat) (i j : Nat) : cutS (S l) (some (i : Int)) (some (j : Int)) = S (sub l i j) := by
  unfold cutS
  rw [SX.S_len, HT.sIx_nat, HT.sIx_nat]
  show (⟨((l.drop (min i l.length)).take (min j l.length - min i l.length)).toArray⟩ : Str) = _
  rw [cut_core]
theorem cut_to (l : List Nat) (j : Nat) : cutS (S l) none (some (j : Int)) = S (l.take j) := by
  unfold cutS
  rw [SX.S_len, HT.sIx_nat, HT.sIx_none]
  show (⟨((l.drop 0).take (min j l.length - 0)).toArray⟩ : Str) = _
  have e : (l.drop 0).take (min j l.length - 0) = l.take j := by
    rw [List.drop_zero, Nat.sub_zero]
    by_cases hj : j ≤ l.length
    · rw [Nat.min_eq_left hj]
    · rw [Nat.min_eq_right (by omega), List.take_length, List.take_of_length_le (by omega)]
  rw [e]
theorem cut_from (l : List Nat) (i : Nat) : cutS (S l) (some (i : Int)) none = S (l.drop i) := by
  unfold cutS
  rw [SX.S_len, HT.sIx_nat, HT.sIx_none]
  show (⟨((l.drop (min i l.length)).take (l.length - min i l.length)).toArray⟩ : Str) = _
  have e : (l.drop (min i l.length)).take (l.length - min i l.length) = l.drop i := by
    by_cases hi : i ≤ l.length
    · rw [Nat.min_eq_left hi, List.take_of_length_le (by rw [List.length_drop]; omega)]
    · rw [Nat.min_eq_right (by omega), Nat.sub_self, List.take_zero, List.drop_of_length_le (by omega)]
  rw [e]
/-! ### the next ';' -/
def fnd (l : List Nat) (a : Nat) : Option Nat := if Txt.find3 (S l) (S [59]) (a : Int) = -1 then none else some (Txt.find3 (S l) (S [59]) (a : Int)).toNat
def vI : Option Nat → Int
  | none => -1
  | some k => (k : Int)
theorem from_nat (n a : Nat) : PySem.fromIndex n (a : Int) = a := by
  unfold PySem.fromIndex
  rw [if_neg (by omega)]
  omega
theorem cps_getD (l : List Nat) (k : Nat) : (S l).cps.getD k 0 = l.getD k 0 := by
  simp [S]
theorem fnd_val (l : List Nat) (a : Nat) : Txt.find3 (S l) (S [59]) (a : Int) = vI (fnd l a) := by
  unfold fnd
  by_cases h : Txt.find3 (S l) (S [59]) (a : Int) = -1
  · rw [if_pos h, h]; rfl
  · rw [if_neg h]
    have : 0 ≤ Txt.find3 (S l) (S [59]) (a : Int) := find3_nonneg_of_ne (x := S l) (c := 59) h
    show _ = (((Txt.find3 (S l) (S [59]) (a : Int)).toNat : Nat) : Int)
    omega
theorem fnd_none {l : List Nat} {a : Nat} (h : fnd l a = none) : ∀ v, a ≤ v → v < l.length → l.getD v 0 ≠ 59 := by
  rcases StrLaws.find3_spec (S l) 59 (a : Int) with ⟨_, hn⟩ | ⟨k, hk, _⟩
  · intro v h1 h2
    have := hn v (by rw [from_nat]; exact h1) (by rw [SX.S_len]; exact h2)
    rwa [cps_getD] at this
  · have hk' : Txt.find3 (S l) (S [59]) (a : Int) = (k : Int) := hk
    unfold fnd at h
    rw [hk', if_neg (by omega)] at h
    cases h
theorem fnd_some {l : List Nat} {a k : Nat} (h : fnd l a = some k) : a ≤ k ∧ k < l.length ∧ l.getD k 0 = 59 ∧ ∀ v, a ≤ v → v < k → l.getD v 0 ≠ 59 := by
  rcases StrLaws.find3_spec (S l) 59 (a : Int) with ⟨hk, hn⟩ | ⟨j, hk, h1, h2, h3, h4⟩
  · have hk' : Txt.find3 (S l) (S [59]) (a : Int) = -1 := hk
    unfold fnd at h
    rw [hk', if_pos rfl] at h
    cases h
  · have hk' : Txt.find3 (S l) (S [59]) (a : Int) = (j : Int) := hk
    unfold fnd at h
    rw [hk', if_neg (by omega)] at h
    have e : j = k := by
      have := Option.some.inj h
      omega
    subst e
    rw [from_nat] at h1 h4
    rw [SX.S_len] at h2
    rw [cps_getD] at h3
    exact ⟨h1, h2, h3, fun v a b => by have := h4 v a b; rwa [cps_getD] at this⟩
theorem fnd_is {l : List Nat} {a k : Nat} (h1 : a ≤ k) (h2 : k < l.length) (h3 : l.getD k 0 = 59) (h4 : ∀ v, a ≤ v → v < k → l.getD v 0 ≠ 59) : fnd l a = some k := by
  cases e : fnd l a with
  | none => exact absurd h3 (fnd_none e k h1 h2)
  | some j =>
    obtain ⟨a1, a2, a3, a4⟩ := fnd_some e
    rcases Nat.lt_trichotomy j k with c | c | c
    · exact absurd a3 (h4 j a1 c)
    · rw [c]
    · exact absurd h3 (a4 k h1 c)
/-! ### where a field's descriptor ends -/
/-- how many "[" stand in front -/
def nb : List Nat → Nat
  | [] => 0
  | c :: r => if c = 91 then nb r + 1 else 0
theorem nb_le : ∀ l, nb l ≤ l.length
  | [] => Nat.le_refl _
  | c :: r => by
    show (if c = 91 then nb r + 1 else 0) ≤ r.length + 1
    have := nb_le r
    split <;> omega
theorem nb_at : ∀ (l : List Nat) (i : Nat), i < nb l → l[i]? = some 91
  | [], i, h => by cases h
  | c :: r, i, h => by
    have h' : i < (if c = 91 then nb r + 1 else 0) := h
    by_cases e : c = 91
    · rw [if_pos e] at h'
      cases i with
      | zero => rw [e]; rfl
      | succ i => exact nb_at r i (by omega)
    · rw [if_neg e] at h'
      cases h'
theorem nb_end : ∀ (l : List Nat), l[nb l]? ≠ some 91
  | [] => by simp [nb]
  | c :: r => by
    show (c :: r)[(if c = 91 then nb r + 1 else 0)]? ≠ some 91
    by_cases e : c = 91
    · rw [if_pos e]
      exact nb_end r
    · rw [if_neg e]
      intro h
      exact e (Option.some.inj h)
def letters : List Nat := [90, 66, 83, 67, 73, 74]
def fend (l : List Nat) (b : Nat) : Option Nat :=
  let a := b + nb (l.drop b)
  if a = l.length ∨ nb (l.drop b) > 5 then none
  else if letters.any (fun x => decide (l.getD a 0 = x)) = true then some (a + 1)
  else match fnd l a with
    | none => none
    | some k => if l.getD a 0 = 76 ∧ isClassL (sub l (a + 1) k) = true then some (k + 1) else none
def vOpt : Option Nat → V
  | none => .non
  | some k => .int (k : Int)
end N8

namespace N8
open PySem PySem.Spec PyProof.Rows L2 Evl
open SX (S)
section
variable {K : PySem.W.Frag} {σ : L2.St} {H H' : Hp} {ta tb tc te : TE} {tl th : TO} {t u : TT} {x y z v : V}
theorem ev_slS {l : List Nat} {lo hi : Option Int} {r : List Nat} (h : Ev te σ H (.str (S l))) (h1 : EvO tl σ H lo) (h2 : EvO th σ H hi) (hl : l.length ≤ 40000) (er : cutS (S l) lo hi = S r) : Ev (tSl rSlS te tl th) σ H (.str (S r)) := fun H1 e Q q =>
  h H1 e _ fun H2 e2 => h1 H2 (e.trans e2) _ fun H3 e3 => h2 H3 ((e.trans e2).trans e3) _ fun H4 e4 => ⟨S l, rfl, by rw [SX.S_len]; exact sz_of (by omega), by rw [er]; exact q H4 ((e2.trans e3).trans e4)⟩
abbrev rFind3 : V → List V → Hp → VK → Prop := fun x xs H Q => ∃ (a b : Str) (i : Int), x = .str a ∧ xs = [.str b, .int i] ∧ Q (.int (Txt.find3 a b i)) H
theorem ev_find {l : List Nat} {a : Nat} {z : Str} (ez : z = S [59]) (h : Ev ta σ H (.str (S l))) (hb : Ev tb σ H (.int (a : Int))) : Ev (tBM K "str" rFind3 ta (tCons (tC (.str z)) (tCons tb tNil))) σ H (.int (vI (fnd l a))) := fun H1 e Q q =>
  h H1 e _ fun H2 e2 => ⟨rfl, hb H2 (e.trans e2) _ fun H3 e3 => ⟨S l, z, (a : Int), rfl, rfl, by subst ez; rw [fnd_val]; exact q H3 (e2.trans e3)⟩⟩
theorem ev_at {l : List Nat} {a c : Nat} (h : Ev ta σ H (.str (S l))) (hb : Ev tb σ H (.int (a : Int))) (hl : l.length ≤ 40000) (hc : l[a]? = some c) : Ev (tOp rIxS ta tb) σ H (.str (S [c])) :=
  ev_op h hb (rv_ixS (by rw [SX.S_len]; omega) (atI_nat hc))
theorem rv_eqS {a b : List Nat} {z1 z2 : Str} (e1 : z1 = S a) (e2 : z2 = S b) : RV rEq (.str z1) (.str z2) H (.bl (decide (a = b))) := by
  subst e1 e2
  refine rv_is (rv_eq rfl) (bl_iff ⟨fun e => ?_, fun e => by rw [e]⟩)
  exact SX.S_inj (V.str.inj e)
theorem rv_neS {a b : List Nat} {z1 z2 : Str} (e1 : z1 = S a) (e2 : z2 = S b) : RV rNe (.str z1) (.str z2) H (.bl (!decide (a = b))) := by
  subst e1 e2
  refine rv_is (rv_ne rfl) (congrArg V.bl (congrArg not (decide_eq_decide.mpr ⟨fun e => ?_, fun e => by rw [e]⟩)))
  exact SX.S_inj (V.str.inj e)
theorem rv_eqI {a b : Int} : RV rEq (.int a) (.int b) H (.bl (decide (a = b))) := rv_is (rv_eq rfl) (bl_iff ⟨fun e => V.int.inj e, fun e => by rw [e]⟩)
theorem rv_neI {a b : Int} : RV rNe (.int a) (.int b) H (.bl (!decide (a = b))) := rv_is (rv_ne rfl) (congrArg V.bl (congrArg not (decide_eq_decide.mpr ⟨fun e => V.int.inj e, fun e => by rw [e]⟩)))
theorem or_iff {p q : Prop} [Decidable p] [Decidable q] {b : Bool} (h : b = true ↔ (p ∨ q)) : (decide p || decide q) = b := by
  by_cases hp : p
  · rw [decide_eq_true hp, Bool.true_or]
    exact (h.mpr (.inl hp)).symm
  · rw [decide_eq_false hp, Bool.false_or]
    by_cases hq : q
    · rw [decide_eq_true hq]
      exact (h.mpr (.inr hq)).symm
    · rw [decide_eq_false hq]
      cases hb : b with
      | false => rfl
      | true => rcases h.mp hb with c | c <;> contradiction
end
/-- the tuple LETTERS, at a -/
def Letters (K : PySem.W.Frag) (mg : Str → Option Value) : Prop := ∃ a, mg "LETTERS" = some (.ref a) ∧ ∀ H, SqT K H a (letters.map fun c => V.str (S [c]))
section
variable {P : Program} {w : World} {K : PySem.W.Frag} {mg : Str → Option Value} {base : Heap}
def spFieldEnd : Sp := fun vs H Q _ => ∃ (l : List Nat) (b : Nat), vs = [.str (S l), .int (b : Int)] ∧ l.length ≤ 20000 ∧ b ≤ l.length ∧ RetV (vOpt (fend l b)) H Q
theorem ok_fieldEnd {f : Addr} {fd : FuncData} (F : FnP K "_field_end" sFieldEnd f fd) (B : Bt mg) (c_is_class_name : Cl P w K mg base L2.CX0 3 "is_class_name" ["thing"] (spName K isClassL)) (g5 : ∃ t, mg "MOST_BRACKETS" = some (.int 5 t)) (gL : Letters K mg) :
    FnOk P w K mg base L2.CX0 4 f fd ["text", "begin"] spFieldEnd := by
  obtain ⟨t5, g_MOST_BRACKETS⟩ := g5
  obtain ⟨aL, g_LETTERS, hL⟩ := gL
  refine F.ok scFieldEnd (fun vs H Q E h => ?_) (fun cdv A outer s H vs Q E hr h => ?_)
  · obtain ⟨l, b, rfl, _⟩ := h
    rfl
  · obtain ⟨l, b, rfl, hl, hb, q⟩ := h
    refine ⟨_, PSs.nox (pss_cons (ps_set (i := 2) scFieldEnd.nd rfl (.inl rfl) (pv 1))
      (pss_cons (ps_while PassesOwn.never (PW.pt (pw_and (pt_cmpR op_lt (pv 2) (pe_callB call_len_str (by rfl) B.len PySem.boot_len (pa_cons (pv 0) pa_nil)) (nomark _)) (pw_and1 (pt_cmpR op_eq (pe_ix ix_str (pv 0) (pv 2) (fun _ _ => rfl)) pe_str (nomark _))))) (pss_one (ps_aug (i := 2) scFieldEnd.nd rfl (.inl rfl) pe_int ip_add)))
      (pss_cons (ps_if (PW.pt (pw_or (pt_cmpR op_eq (pv 2) (pe_callB call_len_str (by rfl) B.len PySem.boot_len (pa_cons (pv 0) pa_nil)) (nomark _)) (pw_or1 (pt_cmpR op_gt (pe_op op_sub (pv 2) (pv 1)) (pe_glob (v := .int 5) (by rfl) g_MOST_BRACKETS ⟨_, rfl⟩) (nomark _))))) (pss_one (ps_ret pe_non)) pss_nil)
      (pss_cons (ps_if (pt_cmpR op_in_seq (pe_ix ix_str (pv 0) (pv 2) (fun _ _ => rfl)) (pe_glob (v := .ref aL) (by rfl) g_LETTERS rfl) rfl) (pss_one (ps_ret (pe_op op_add (pv 2) pe_int))) pss_nil)
      (pss_cons (ps_set (i := 3) scFieldEnd.nd rfl (.inl rfl) (pe_bm PySem.F.plainAttrs_str PySem.F.slot_str_find PySem.F.type_str_find mt_find3 (pv 0) (pa_cons pe_str (pa_cons (pv 2) pa_nil))))
      (pss_cons (ps_if (PW.pt (pw_or (pt_cmpR op_ne (pe_ix ix_str (pv 0) (pv 2) (fun _ _ => rfl)) pe_str (nomark _)) (pw_or (pt_cmpR op_eq (pv 3) (pe_un un_neg pe_int) (nomark _)) (pw_or1 (pt_not (pt_val (pe_cl c_is_class_name hr (by decide) (by rfl) (pa_cons (pe_slice sl_str (pv 0) (po_some (pe_op op_add (pv 2) pe_int)) (po_some (pv 3))) pa_nil)))))))) (pss_one (ps_ret pe_non)) pss_nil)
      (pss_one (ps_ret (pe_op op_add (pv 3) pe_int))))))))), ?_⟩
    refine q_asg (ev_var rfl) fun H1 x1 => ?_
    have hnb := nb_le (l.drop b)
    rw [List.length_drop] at hnb
    refine q_while (fun m σ' H' => ∃ i : Nat, m + i = nb (l.drop b) ∧ Ex H H' ∧ σ' = [some (.str (S l)), some (.int (b : Int)), some (.int ((b + i : Nat) : Int)), none]) (nb (l.drop b)) ⟨0, by omega, x1, rfl⟩ (fun m σ' H' hW => ?_)
    obtain ⟨i, em, x2, rfl⟩ := hW
    refine ⟨decide (0 < m), ?_, fun em' H2 x3 => ?_, fun em' H2 x3 => ?_⟩
    · by_cases hlt : b + i < l.length
      · obtain ⟨c, hc⟩ : ∃ c, l[b + i]? = some c := ⟨_, List.getElem?_eq_getElem hlt⟩
        refine et_is (et_and (a := true) (b := decide ([c] = [91])) (et_test (ev_op (ev_var rfl) (ev_lenS (ev_var rfl) (by omega)) (rv_is rv_I0 ?_))) fun _ => et_test (ev_op (ev_at (ev_var rfl) (ev_var rfl) (by omega) hc) ev_c (rv_eqS rfl (by decide +kernel)))) ?_
        · exact congrArg V.bl (decide_eq_true (by omega))
        · rw [Bool.true_and]
          have hd : (l.drop b)[i]? = some c := by rw [List.getElem?_drop]; exact hc
          refine decide_eq_decide.mpr ⟨fun e => ?_, fun e => ?_⟩
          · have e2 : c = 91 := List.cons.inj e |>.1
            subst e2
            by_cases hi : i = nb (l.drop b)
            · exact absurd hd (by rw [hi]; exact nb_end _)
            · omega
          · have := nb_at (l.drop b) i (by omega)
            rw [hd] at this
            rw [Option.some.inj this]
      · refine et_is (et_and (a := false) (b := false) (et_test (ev_op (ev_var rfl) (ev_lenS (ev_var rfl) (by omega)) (rv_is rv_I0 ?_))) fun e => by cases e) ?_
        · exact congrArg V.bl (decide_eq_false (by omega))
        · rw [decide_eq_false (by omega)]; rfl
    · have hm := of_decide_eq_true em'
      refine ⟨fun σ2 H3 => ∃ i : Nat, (m - 1) + i = nb (l.drop b) ∧ Ex H H3 ∧ σ2 = [some (.str (S l)), some (.int (b : Int)), some (.int ((b + i : Nat) : Int)), none], fun σ2 H3 h => ⟨m - 1, by omega, h⟩, ?_⟩
      refine s_aug (f := fun i j => i + j) (a := ((b + i : Nat) : Int)) (b := 1) rfl ev_c fun H3 x4 => ⟨i + 1, by omega, (x2.trans x3).trans x4, ?_⟩
      show [some (V.str (S l)), some (.int (b : Int)), some (.int (((b + i : Nat) : Int) + 1)), none] = _
      rw [show ((b + i : Nat) : Int) + 1 = ((b + (i + 1) : Nat) : Int) by omega]
    · have hm := of_decide_eq_false em'
      have ei : i = nb (l.drop b) := by omega
      have q2 : RetV (vOpt (fend l b)) H2 Q := fun H3 e3 => q H3 ((x2.trans x3).trans e3)
      clear q
      unfold fend at q2
      rw [← ei] at q2
      refine q_when (b := decide (b + i = l.length) || decide (i > 5)) (et_or (et_test (ev_op (ev_var rfl) (ev_lenS (ev_var rfl) (by omega)) (rv_is rv_eqI ?_))) fun _ => et_test (ev_op (ev_op (ev_var rfl) (ev_var rfl) rv_I0) ev_c (rv_is rv_I0 ?_))) (fun e H3 x4 => ?_) (fun e H3 x4 => ?_)
      · exact bl_iff (by omega)
      · exact bl_iff (by omega)
      · rw [if_pos (by simpa using e)] at q2
        exact s_ret ev_c fun H4 x5 => q2 H4 (x4.trans x5)
      · have e2 : ¬ (b + i = l.length ∨ i > 5) := by simpa using e
        rw [if_neg e2] at q2
        obtain ⟨c, hc⟩ : ∃ c, l[b + i]? = some c := ⟨_, List.getElem?_eq_getElem (by omega)⟩
        rw [getD_of hc] at q2
        have hat : ∀ H5, Ev (tOp rIxS (tVar 0) (tVar 2)) [some (V.str (S l)), some (.int (b : Int)), some (.int ((b + i : Nat) : Int)), none] H5 (.str (S [c])) := fun H5 => ev_at (ev_var rfl) (ev_var rfl) (by omega) hc
        refine q_when (b := letters.any fun x => decide (c = x)) (et_test (ev_is (ev_op (hat H3) ev_c (rv_inT (hL _) rfl (by decide +kernel))) ?_)) (fun e H4 x5 => ?_) (fun e H4 x5 => ?_)
        · exact congrArg V.bl (inV_sign (zs := letters))
        · rw [if_pos e] at q2
          refine s_ret (ev_op (ev_var rfl) ev_c rv_I0) fun H5 x6 => ?_
          have := q2 H5 ((x4.trans x5).trans x6)
          exact this
        · rw [if_neg (by rw [e]; decide)] at q2
          refine q_asg (ev_find (by decide +kernel) (ev_var rfl) (ev_var rfl)) fun H5 x6 => ?_
          have hat2 : ∀ v H5, Ev (tOp rIxS (tVar 0) (tVar 2)) [some (V.str (S l)), some (.int (b : Int)), some (.int ((b + i : Nat) : Int)), v] H5 (.str (S [c])) := fun v H5 => ev_at (ev_var rfl) (ev_var rfl) (by omega) hc
          cases ek : fnd l (b + i) with
          | none =>
            rw [ek] at q2
            refine q_when (b := true) (et_is (et_or (a := !decide ([c] = [76])) (b := true) (et_test (ev_op (hat2 _ H5) ev_c (rv_neS rfl (by decide +kernel)))) fun _ => et_is (et_or (a := true) (b := false) (et_test (ev_op (ev_var rfl) (ev_un ev_c ru_neg) (rv_is rv_eqI ?_))) fun e => by cases e) rfl) (Bool.or_true _)) (fun e H6 x7 => ?_) (fun e => by cases e)
            · exact congrArg V.bl (decide_eq_true rfl)
            · exact s_ret ev_c fun H7 x8 => q2 H7 ((((x4.trans x5).trans x6).trans x7).trans x8)
          | some k =>
            obtain ⟨k1, k2, k3, k4⟩ := fnd_some ek
            rw [ek] at q2
            by_cases hc76 : c = 76
            · subst hc76
              refine q_when (b := !isClassL (sub l (b + i + 1) k)) (et_is (et_or (a := false) (b := !isClassL (sub l (b + i + 1) k)) (et_test (ev_op (hat2 _ H5) ev_c (rv_is (rv_neS (b := [76]) rfl (by decide +kernel)) ?_))) fun _ => et_is (et_or (a := false) (b := !isClassL (sub l (b + i + 1) k)) (et_test (ev_op (ev_var rfl) (ev_un ev_c ru_neg) (rv_is rv_eqI ?_))) fun _ => et_not (et_B (ev_call (ea_cons (ev_slS (ev_var rfl) (eo_some (ev_op (ev_var rfl) ev_c rv_I0)) (eo_some (ev_var rfl)) (by omega) (r := sub l (b + i + 1) k) ?_) ea_nil) ?_))) (Bool.false_or _)) (Bool.false_or _)) (fun e H6 x7 => ?_) (fun e H6 x7 => ?_)
              · rfl
              · exact congrArg V.bl (decide_eq_false (by show ¬ ((k : Int) = -1); omega))
              · exact cut_nat l (b + i + 1) k
              · intro H6 x7 Q' q' E'
                refine ⟨_, _, rfl, .inl ⟨_, rfl, ?_, rfl⟩, q'⟩
                unfold sub
                rw [List.length_take, List.length_drop]
                omega
              · have hcl : isClassL (sub l (b + i + 1) k) = false := by simpa using e
                have q3 := q2
                simp only [hcl] at q3
                refine s_ret ev_c fun H7 x8 => ?_
                have := q3 H7 ((((x4.trans x5).trans x6).trans x7).trans x8)
                simpa [vOpt] using this
              · have hcl : isClassL (sub l (b + i + 1) k) = true := by simpa using e
                have q3 := q2
                simp only [hcl] at q3
                refine s_ret (ev_op (ev_var rfl) ev_c rv_I0) fun H7 x8 => ?_
                have := q3 H7 ((((x4.trans x5).trans x6).trans x7).trans x8)
                simpa [vOpt, vI] using this
            · refine q_when (b := true) (et_is (et_or (a := true) (b := false) (et_test (ev_op (hat2 _ H5) ev_c (rv_is (rv_neS (b := [76]) rfl (by decide +kernel)) ?_))) fun e => by cases e) rfl) (fun e H6 x7 => ?_) (fun e => by cases e)
              · exact congrArg V.bl (congrArg not (decide_eq_false fun e => hc76 (List.cons.inj e).1))
              · refine s_ret ev_c fun H7 x8 => ?_
                have := q2 H7 ((((x4.trans x5).trans x6).trans x7).trans x8)
                simpa [vOpt, hc76] using this
end
end N8

namespace N8
open PySem PySem.Spec PyProof.Rows L2 Evl
open SX (S)
/-! ### the parts of a method's descriptor -/
theorem fend_lt {l : List Nat} {b e : Nat} (hb : b ≤ l.length) (h : fend l b = some e) : b < e ∧ e ≤ l.length := by
  have hn := nb_le (l.drop b)
  rw [List.length_drop] at hn
  unfold fend at h
  by_cases c1 : b + nb (l.drop b) = l.length ∨ nb (l.drop b) > 5
  · rw [if_pos c1] at h
    cases h
  · rw [if_neg c1] at h
    by_cases c2 : letters.any (fun x => decide (l.getD (b + nb (l.drop b)) 0 = x)) = true
    · rw [if_pos c2] at h
      have := Option.some.inj h
      omega
    · rw [if_neg c2] at h
      cases ek : fnd l (b + nb (l.drop b)) with
      | none =>
        rw [ek] at h
        cases h
      | some k =>
        rw [ek] at h
        obtain ⟨k1, k2, _, _⟩ := fnd_some ek
        have h' : (if l.getD (b + nb (l.drop b)) 0 = 76 ∧ isClassL (sub l (b + nb (l.drop b) + 1) k) = true then some (k + 1) else none) = some e := h
        split at h'
        · have := Option.some.inj h'
          omega
        · cases h'
def isFieldL (l : List Nat) : Bool := decide (fend l 0 = some l.length)
def placesL (ds : List (List Nat)) : Int := (ds.map fun d => if d = [74] then (2 : Int) else 1).sum
def loopP (l : List Nat) : Nat → Nat → List (List Nat) → Option (List (List Nat) × Nat)
  | 0, _, _ => none
  | n + 1, at_, acc => if at_ < l.length ∧ l.getD at_ 0 ≠ 41 then (match fend l at_ with
    | none => none
    | some e => loopP l n e (acc ++ [sub l at_ e])) else some (acc, at_)
def finL (l : List Nat) : Option (List (List Nat) × Nat) → Option (List (List Nat))
  | none => none
  | some (acc, at_) => if placesL acc > 254 ∨ (l.drop (at_ + 1) ≠ [86] ∧ isFieldL (l.drop (at_ + 1)) = false) then none else some (acc ++ [l.drop (at_ + 1)])
theorem finL_no {l : List Nat} {acc : List (List Nat)} {a : Nat} (h : placesL acc > 254 ∨ (l.drop (a + 1) ≠ [86] ∧ isFieldL (l.drop (a + 1)) = false)) : finL l (some (acc, a)) = none := if_pos h
theorem finL_ok {l : List Nat} {acc : List (List Nat)} {a : Nat} (h : ¬ (placesL acc > 254 ∨ (l.drop (a + 1) ≠ [86] ∧ isFieldL (l.drop (a + 1)) = false))) : finL l (some (acc, a)) = some (acc ++ [l.drop (a + 1)]) := if_neg h
def partsL (l : List Nat) : Option (List (List Nat)) := if l.head? = some 40 then finL l (loopP l (l.length + 1) 1 []) else none
abbrev vs (l : List Nat) : V := .str (S l)
section
variable {K : PySem.W.Frag} {σ : L2.St} {H H' : Hp} {ta tb tc te : TE} {tl th : TO} {t u : TT} {x y z v : V}
theorem rv_eqO {o : Option Nat} {n : Nat} : RV rEq (vOpt o) (.int (n : Int)) H (.bl (decide (o = some n))) := by
  cases o with
  | none => exact rv_is (rv_eq rfl) (congrArg V.bl (by rw [decide_eq_false (by intro e; cases e), decide_eq_false (by intro e; cases e)]))
  | some k => exact rv_is (rv_eq rfl) (bl_iff ⟨fun e => by have := V.int.inj e; congr 1; omega, fun e => by rw [Option.some.inj e]; rfl⟩)
abbrev rIsNon : R2 := fun x y H Q => y = .non ∧ Q (.bl (decide (x = .non))) H
theorem rv_isO {o : Option Nat} : RV rIsNon (vOpt o) .non H (.bl (decide (o = none))) := fun H1 _ Q q => ⟨rfl, by
  have e : decide (vOpt o = V.non) = decide (o = none) := by
    cases o with
    | none => rfl
    | some k => rw [decide_eq_false (by intro e; cases e), decide_eq_false (by intro e; cases e)]
  rw [e]
  exact q H1 (Ex.refl H1)⟩
abbrev rStarts : V → List V → Hp → VK → Prop := fun x xs H Q => ∃ a b, x = .str a ∧ xs = [.str b] ∧ Q (.bl (Txt.startswith a b)) H
theorem starts1 (l : List Nat) (c : Nat) : Txt.startswith (S l) (S [c]) = decide (l.head? = some c) := by
  unfold Txt.startswith Builtin.Str.subAt
  rw [SX.S_len, SX.S_len]
  cases l with
  | nil => simp
  | cons d r =>
    simp [S]
    by_cases e : d = c
    · subst e; simp
    · simp [e]
theorem ev_starts {l : List Nat} {c : Nat} {z : Str} (ez : z = S [c]) (h : Ev ta σ H (.str (S l))) : Ev (tM1 rStarts ta (tC (.str z))) σ H (.bl (decide (l.head? = some c))) := fun H1 e Q q =>
  h H1 e _ fun H2 e2 => ⟨⟨_, rfl⟩, S l, z, rfl, rfl, by subst ez; rw [starts1]; exact q H2 e2⟩
end
section
variable {P : Program} {w : World} {K : PySem.W.Frag} {mg : Str → Option Value} {base : Heap}
theorem ok_isField {f : Addr} {fd : FuncData} (F : FnP K "is_field_descriptor" sIsFieldDescriptor f fd) (B : Bt mg) (c_field_end : Cl P w K mg base L2.CX0 4 "_field_end" ["text", "begin"] spFieldEnd) :
    FnOk P w K mg base L2.CX0 5 f fd ["thing"] (spName K isFieldL) := by
  refine F.ok scIsFieldDescriptor (fun vs H Q E h => ?_) (fun cdv A outer s H vs Q E hr h => ?_)
  · obtain ⟨x, b, rfl, _⟩ := h
    rfl
  · obtain ⟨x, b, rfl, hx, q⟩ := h
    refine ⟨_, PSs.nox (pss_one (ps_ret (pe_and (pe_callB call_isi (by rfl) B.isi (by decide +kernel) (pa_cons (pv 0) (pa_cons (pe_bltn (v := .ty "str") (by rfl) B.str (by decide +kernel) rfl) pa_nil))) (pe_one (pe_cmpR op_eq (pe_cl c_field_end hr (by decide) (by rfl) (pa_cons (pv 0) (pa_cons pe_int pa_nil))) (pe_callB call_len_str (by rfl) B.len PySem.boot_len (pa_cons (pv 0) pa_nil)) (nomark _)))))), ?_⟩
    rcases hx with ⟨l, rfl, hl, rfl⟩ | ⟨hn, rfl⟩
    · refine s_ret (v := .bl (isFieldL l)) (ev_is (ev_andV (a := true) (b := isFieldL l) (ev_isStr (ev_var rfl)) fun _ => ev_op (ev_call (ea_cons (ev_var rfl) (ea_cons ev_c ea_nil)) (fun H1 x1 Q' q' E' => ⟨l, 0, rfl, hl, Nat.zero_le _, q'⟩)) (ev_lenS (ev_var rfl) (by omega)) rv_eqO) rfl) q
    · exact s_ret (ev_is (ev_andV (a := false) (b := false) (ev_noStr (ev_var rfl) hn) fun e => by cases e) rfl) q
def spPlaces (K : PySem.W.Frag) : Sp := fun vs H Q _ => ∃ (a : Addr) (ds : List (List Nat)), vs = [.ref a] ∧ SqL K H a (ds.map N8.vs) ∧ ds.length ≤ 20000 ∧ RetV (.int (placesL ds)) H Q
theorem ok_places {f : Addr} {fd : FuncData} (F : FnP K "places_of" sPlacesOf f fd) (B : Bt mg) : FnOk P w K mg base L2.CX0 1 f fd ["descriptors"] (spPlaces K) := by
  refine F.ok scPlacesOf (fun vs H Q E h => ?_) (fun cdv A outer s H vs Q E hr h => ?_)
  · obtain ⟨a, ds, rfl, _⟩ := h
    rfl
  · obtain ⟨a, ds, rfl, hS, hl, q⟩ := h
    refine ⟨_, PSs.nox (pss_one (ps_ret (pe_callB (cr_sum rfl) (by rfl) B.sum (by decide +kernel) (pa_cons (pe_lc (own := [("descriptor", 1)]) (g := gName 1) (tt := tYes) rfl scPlacesOf.nd (pi_list (pv 0)) (blkOk_by (N := ["descriptors", "descriptor"]) (sc := L2.defScope sPlacesOf) (by decide +kernel)) (fun _ _ _ _ _ => pg_name (i := 1) scPlacesOf.nd rfl (Or.inl rfl)) (fun _ _ _ _ _ => pts_nil) (fun _ _ _ _ _ => (pe_ifExp (pt_cmpR op_eq (pv 1) pe_str (nomark _)) pe_int pe_int))) pa_nil)))), ?_⟩
    refine s_ret (ev_sum (ns := ds.map fun d => if d = [74] then (2 : Int) else 1) ?_) q
    have e2 := el_lcL (K := K) (σ := start ["descriptors", "descriptor"] [V.ref a]) (H := H) (xs := ds.map N8.vs) (t := tYes) (te := tIf (tTest (tOp rEq (tVar 1) (tC (.str "J")))) (tC (.int 2)) (tC (.int 1))) (tl := tVar 0) (j := 1) (vs := [1]) (fun _ => true) (fun i => .int (if ds.getD i [] = [74] then (2 : Int) else 1)) (ev_var rfl) hS
      (by rw [List.length_map]; omega) (fun _ => rfl) (fun i c H2 _ hc => fun H3 e3 Q q => q H3 (Ex.refl H3)) (fun i c H2 x2 hc _ => by
        rw [List.getElem?_map] at hc
        cases hp : ds[i]? with
        | none => rw [hp] at hc; cases hc
        | some p =>
          rw [hp] at hc
          cases hc
          rw [getD_of hp]
          refine ev_if (b := decide (p = [74])) (et_test (ev_op (ev_var rfl) ev_c (rv_eqS rfl (by decide +kernel)))) (fun e => ev_is ev_c ?_) (fun e => ev_is ev_c ?_)
          · rw [if_pos (of_decide_eq_true e)]
          · rw [if_neg (of_decide_eq_false e)])
    rw [List.length_map, given_all ds (fun d => V.int (if d = [74] then (2 : Int) else 1)) _ (fun i c h => by rw [getD_of h])] at e2
    rw [List.map_map]
    exact e2
end
end N8

namespace N8
open PySem PySem.Spec PyProof.Rows L2 Evl
open SX (S)
def RetO (o : Option (List V)) (H : Hp) (Q : VK) : Prop := match o with
  | none => RetV .non H Q
  | some xs => RetL xs H Q
def PartsOf (K : PySem.W.Frag) (H : Hp) (x : V) (o : Option (List (List Nat))) : Prop := (∃ l, x = .str (S l) ∧ l.length ≤ 20000 ∧ o = partsL l) ∨ (NoStr K H x ∧ o = none)
def spParts (K : PySem.W.Frag) : Sp := fun vs H Q _ => ∃ (x : V) (o : Option (List (List Nat))), vs = [x] ∧ PartsOf K H x o ∧ RetO (o.map fun ps => ps.map N8.vs) H Q
section
variable {P : Program} {w : World} {K : PySem.W.Frag} {mg : Str → Option Value} {base : Heap}
theorem ok_parts {f : Addr} {fd : FuncData} (F : FnP K "_method_parts" sMethodParts f fd) (B : Bt mg) (c_field_end : Cl P w K mg base L2.CX0 4 "_field_end" ["text", "begin"] spFieldEnd)
    (c_is_field_descriptor : Cl P w K mg base L2.CX0 5 "is_field_descriptor" ["thing"] (spName K isFieldL)) (c_places_of : Cl P w K mg base L2.CX0 1 "places_of" ["descriptors"] (spPlaces K)) (g254 : ∃ t, mg "MOST_PARAMETER_PLACES" = some (.int 254 t)) :
    FnOk P w K mg base L2.CX0 6 f fd ["thing"] (spParts K) := by
  obtain ⟨t254, g_MOST_PARAMETER_PLACES⟩ := g254
  refine F.ok scMethodParts (fun vs H Q E h => ?_) (fun cdv A outer s H vs Q E hr h => ?_)
  · obtain ⟨x, b, rfl, _⟩ := h
    rfl
  · obtain ⟨x, o, rfl, hx, q⟩ := h
    refine ⟨_, PSs.nox (pss_cons (ps_if (PW.pt (pw_or (pt_not (pt_val (pe_callB call_isi (by rfl) B.isi (by decide +kernel) (pa_cons (pv 0) (pa_cons (pe_bltn (v := .ty "str") (by rfl) B.str (by decide +kernel) rfl) pa_nil))))) (pw_or1 (pt_not (pt_val (pe_m1 PySem.F.slot_str_startswith PySem.F.type_str_startswith mt_startswith (pv 0) pe_str)))))) (pss_one (ps_ret pe_non)) pss_nil)
      (pss_cons (ps_set (i := 1) scMethodParts.nd rfl (.inl rfl) (pe_lst pa_nil))
      (pss_cons (ps_set (i := 2) scMethodParts.nd rfl (.inl rfl) pe_int)
      (pss_cons (ps_while PassesOwn.never (PW.pt (pw_and (pt_cmpR op_lt (pv 2) (pe_callB call_len_str (by rfl) B.len PySem.boot_len (pa_cons (pv 0) pa_nil)) (nomark _)) (pw_and1 (pt_cmpR op_ne (pe_ix ix_str (pv 0) (pv 2) (fun _ _ => rfl)) pe_str (nomark _))))) (pss_cons (ps_set (i := 3) scMethodParts.nd rfl (.inl rfl) (pe_cl c_field_end hr (by decide) (by rfl) (pa_cons (pv 0) (pa_cons (pv 2) pa_nil))))
      (pss_cons (ps_if (pt_cmpR op_isN (pv 3) pe_non (nomark _)) (pss_one (ps_ret pe_non)) pss_nil)
      (pss_cons (ps_expr (pe_bm PySem.F.plainAttrs_list PySem.F.slot_list_append PySem.F.type_list_append mt_append (pv 1) (pa_cons (pe_slice sl_str (pv 0) (po_some (pv 2)) (po_some (pv 3))) pa_nil)))
      (pss_one (ps_set (i := 2) scMethodParts.nd rfl (.inl rfl) (pv 3)))))))
      (pss_cons (ps_set (i := 4) scMethodParts.nd rfl (.inl rfl) (pe_slice sl_str (pv 0) (po_some (pe_op op_add (pv 2) pe_int)) po_none))
      (pss_cons (ps_if (PW.pt (pw_or (pt_cmpR op_gt (pe_cl c_places_of hr (by decide) (by rfl) (pa_cons (pv 1) pa_nil)) (pe_glob (v := .int 254) (by rfl) g_MOST_PARAMETER_PLACES ⟨_, rfl⟩) (nomark _)) (pw_or1 (PW.pt (pw_and (pt_cmpR op_ne (pv 4) pe_str (nomark _)) (pw_and1 (pt_not (pt_val (pe_cl c_is_field_descriptor hr (by decide) (by rfl) (pa_cons (pv 4) pa_nil)))))))))) (pss_one (ps_ret pe_non)) pss_nil)
      (pss_cons (ps_expr (pe_bm PySem.F.plainAttrs_list PySem.F.slot_list_append PySem.F.type_list_append mt_append (pv 1) (pa_cons (pv 4) pa_nil)))
      (pss_one (ps_ret (pv 1)))))))))), ?_⟩
    rcases hx with ⟨l, rfl, hl, rfl⟩ | ⟨hn, rfl⟩
    · refine q_when (b := !decide (l.head? = some 40)) (et_is (et_or (a := false) (et_not (et_B (ev_isStr (ev_var rfl)))) fun _ => et_not (et_B (ev_starts (by decide +kernel) (ev_var rfl)))) (Bool.false_or _)) (fun e H1 x1 => ?_) (fun e H1 x1 => ?_)
      · have hh : ¬ l.head? = some 40 := by simpa using e
        have eo : partsL l = none := if_neg hh
        rw [eo] at q
        exact s_ret ev_c fun H2 x2 => q H2 (x1.trans x2)
      · have hh : l.head? = some 40 := by simpa using e
        have l1 : 1 ≤ l.length := by
          cases l with
          | nil => cases hh
          | cons c r => exact Nat.succ_le_succ (Nat.zero_le _)
        refine q_asgL (el_lst ea_nil (by decide)) fun p H2 hp1 x2 h2 => ?_
        have hp : H p = none := fresh_back x1 hp1
        refine q_asg ev_c fun H3 x3 => ?_
        obtain ⟨R, hR⟩ : ∃ R, loopP l (l.length + 1) 1 [] = R := ⟨_, rfl⟩
        have hparts : partsL l = finL l R := by
          unfold partsL
          rw [if_pos hh, hR]
        rw [hparts] at q
        clear hparts
        refine q_while (fun m σ' H' => ∃ (at_ : Nat) (acc : List (List Nat)) (ev : Option V), loopP l m at_ acc = R ∧ at_ ≤ l.length ∧ l.length < at_ + m ∧ Ex H H' ∧ H' p = some (.lst (acc.map N8.vs)) ∧ acc.length ≤ at_ ∧
            σ' = [some (.str (S l)), some (.ref p), some (.int (at_ : Int)), ev, none]) (l.length + 1) ⟨1, [], none, hR, l1, by omega, (x1.trans x2).trans x3, x3 _ _ h2, Nat.zero_le _, rfl⟩ (fun m σ' H' hW => ?_)
        obtain ⟨at_, acc, ev, eR, ha, hm, xE, hp', hacc, rfl⟩ := hW
        obtain ⟨m, rfl⟩ : ∃ m', m = m' + 1 := ⟨m - 1, by omega⟩
        refine ⟨decide (at_ < l.length ∧ l.getD at_ 0 ≠ 41), ?_, fun em' H4 x4 => ?_, fun em' H4 x4 => ?_⟩
        · by_cases hlt : at_ < l.length
          · obtain ⟨c, hc⟩ : ∃ c, l[at_]? = some c := ⟨_, List.getElem?_eq_getElem hlt⟩
            rw [getD_of hc]
            refine et_is (et_and (a := true) (b := !decide ([c] = [41])) (et_test (ev_op (ev_var rfl) (ev_lenS (ev_var rfl) (by omega)) (rv_is rv_I0 ?_))) fun _ => et_test (ev_op (ev_at (ev_var rfl) (ev_var rfl) (by omega) hc) ev_c (rv_neS rfl (by decide +kernel)))) ?_
            · exact congrArg V.bl (decide_eq_true (by omega))
            · rw [Bool.true_and, ← decide_not]
              exact decide_eq_decide.mpr ⟨fun e => ⟨hlt, fun e2 => e (by rw [e2])⟩, fun e e2 => e.2 (List.cons.inj e2).1⟩
          · refine et_is (et_and (a := false) (b := false) (et_test (ev_op (ev_var rfl) (ev_lenS (ev_var rfl) (by omega)) (rv_is rv_I0 ?_))) fun e => by cases e) ?_
            · exact congrArg V.bl (decide_eq_false (by omega))
            · rw [decide_eq_false (fun e => hlt e.1)]; rfl
        · have hc := of_decide_eq_true em'
          have e1 : loopP l (m + 1) at_ acc = (match fend l at_ with
            | none => none
            | some e => loopP l m e (acc ++ [sub l at_ e])) := if_pos hc
          rw [e1] at eR
          clear e1
          refine ⟨fun σ2 H5 => ∃ (at_ : Nat) (acc : List (List Nat)) (ev : Option V), loopP l m at_ acc = R ∧ at_ ≤ l.length ∧ l.length < at_ + m ∧ Ex H H5 ∧ H5 p = some (.lst (acc.map N8.vs)) ∧ acc.length ≤ at_ ∧
            σ2 = [some (.str (S l)), some (.ref p), some (.int (at_ : Int)), ev, none], fun σ2 H5 h => ⟨m, by omega, h⟩, ?_⟩
          refine q_asg (ev_call (z := vOpt (fend l at_)) (ea_cons (ev_var rfl) (ea_cons (ev_var rfl) ea_nil)) (fun H5 x5 Q' q' E' => ⟨l, at_, rfl, hl, ha, q'⟩)) fun H5 x5 => ?_
          refine q_when (b := decide (fend l at_ = none)) (et_test (ev_op (ev_var rfl) ev_c rv_isO)) (fun e H6 x6 => ?_) (fun e H6 x6 => ?_)
          · rw [of_decide_eq_true e] at eR
            rw [← eR] at q
            exact s_ret ev_c fun H7 x7 => q H7 ((((xE.trans x4).trans x5).trans x6).trans x7)
          · cases ek : fend l at_ with
            | none => exact absurd ek (of_decide_eq_false e)
            | some k =>
              rw [ek] at eR
              obtain ⟨k1, k2⟩ := fend_lt ha ek
              refine q_app (l := p) (xs := acc.map N8.vs) (x6 _ _ (x5 _ _ (x4 _ _ hp'))) (ev_var rfl) (ev_slS (lo := some (at_ : Int)) (hi := some (k : Int)) (ev_var rfl) (eo_some (ev_var rfl)) (eo_some (ev_var rfl)) (by omega) (cut_nat l at_ k)) (by rw [List.length_map]; omega) fun H7 x7 => ?_
              refine s_asg (ev_var rfl) fun H8 x8 => ?_
              refine ⟨k, acc ++ [sub l at_ k], some (vOpt (some k)), eR, k2, by omega, ?_, ?_, by rw [List.length_append]; simp; omega, rfl⟩
              · exact (Ex.mut ((((xE.trans x4).trans x5).trans x6).trans x7) hp).trans x8
              · rw [x8 _ _ upd_same, List.map_append]
                rfl
        · have hc := of_decide_eq_false em'
          have e1 : loopP l (m + 1) at_ acc = some (acc, at_) := if_neg hc
          rw [e1] at eR
          rw [← eR] at q
          refine q_asg (ev_slS (lo := some ((at_ + 1 : Nat) : Int)) (hi := none) (r := l.drop (at_ + 1)) (ev_var rfl) (eo_some (ev_op (ev_var rfl) ev_c rv_I0)) eo_none (by omega) (cut_from l (at_ + 1))) fun H5 x5 => ?_
          have hlast : (l.drop (at_ + 1)).length ≤ 20000 := by rw [List.length_drop]; omega
          refine q_when (b := decide (placesL acc > 254 ∨ (l.drop (at_ + 1) ≠ [86] ∧ isFieldL (l.drop (at_ + 1)) = false))) (et_is (et_or (et_test (ev_op (ev_call (z := .int (placesL acc)) (ea_cons (ev_var rfl) ea_nil) (fun H6 x6 Q' q' E' => ⟨p, acc, rfl, sq_of (x6 _ _ (x5 _ _ (x4 _ _ hp'))), by omega, q'⟩)) ev_c rv_I0)) fun _ => et_and (et_test (ev_op (ev_var rfl) ev_c (rv_neS (b := [86]) rfl (by decide +kernel)))) fun _ => et_not (et_B (ev_call (z := .bl (isFieldL (l.drop (at_ + 1)))) (ea_cons (ev_var rfl) ea_nil) (fun H6 x6 Q' q' E' => ⟨_, _, rfl, .inl ⟨_, rfl, hlast, rfl⟩, q'⟩)))) ?_) (fun e H6 x6 => ?_) (fun e H6 x6 => ?_)
          · cases isFieldL (l.drop (at_ + 1)) <;> simp
          · have q2 : RetV .non H Q := by
              have := q
              rw [finL_no (of_decide_eq_true e)] at this
              exact this
            exact s_ret ev_c fun H7 x7 => q2 H7 ((((xE.trans x4).trans x5).trans x6).trans x7)
          · have q2 : RetL ((acc ++ [l.drop (at_ + 1)]).map N8.vs) H Q := by
              have := q
              rw [finL_ok (of_decide_eq_false e)] at this
              exact this
            refine q_app (l := p) (xs := acc.map N8.vs) (x6 _ _ (x5 _ _ (x4 _ _ hp'))) (ev_var rfl) (ev_var rfl) (by rw [List.length_map]; omega) fun H7 x7 => ?_
            refine s_ret (ev_var rfl) fun H8 x8 => q2 p H8 hp ((Ex.mut ((((xE.trans x4).trans x5).trans x6).trans x7) hp).trans x8) ?_
            rw [x8 _ _ upd_same, List.map_append]
            rfl
    · refine q_when (b := true) (et_is (et_or (a := true) (b := false) (et_not (et_B (ev_noStr (ev_var rfl) hn))) fun e => by cases e) rfl) (fun e H1 x1 => ?_) (fun e H1 x1 => by cases e)
      exact s_ret ev_c fun H2 x2 => q H2 (x1.trans x2)
end
end N8

namespace N8
open PySem PySem.Spec PyProof.Rows L2 Evl
open SX (S)
section
variable {K : PySem.W.Frag} {σ : L2.St} {H H' : Hp} {te ta tb : TE} {t : TA} {r : R2} {v x : V} {D : Ends} {tz tu : TS} {Q : VK}
theorem q_asgAny {i : Nat} (h : te σ H fun v H1 => tz D (σ.set i (some v)) H1) : tSeq (tAsg te (gName i)) tz D σ H := h
/-- a row at p -/
def RowAt (K : PySem.W.Frag) (H : Hp) (p : Addr) (xs : List V) : Prop := H p = some (.lst xs) ∨ H p = some (.tup xs)
theorem RowAt.ex {p : Addr} {xs : List V} (h : RowAt K H p xs) (e : Ex H H') : RowAt K H' p xs := h.elim (fun h => .inl (e _ _ h)) fun h => .inr (e _ _ h)
theorem ev_isiRow {p : Addr} {xs : List V} (h : Ev te σ H (.ref p)) (hp : RowAt K H p xs) : Ev (tCB (rIsiT K) (tCons te (tCons (tTup (tCons (tC (.ty "list")) (tCons (tC (.ty "tuple")) tNil))) tNil))) σ H (.bl true) := fun H1 e Q q =>
  h H1 e _ fun H2 e2 => ⟨by show 2 ≤ sizeLine; decide, fun T hT => by
    rcases hp with hp | hp
    · exact ⟨.ref p, T, [.ty "list", .ty "tuple"], .type "list", [.type "list", .type "tuple"], true, rfl, upd_same, .cons (.ty "list") (.cons (.ty "tuple") .nil), .base (.lst (((e.trans e2).trans (Ex.new hT)) _ _ hp)), by kernel_rfl, q _ (e2.trans (Ex.new hT))⟩
    · exact ⟨.ref p, T, [.ty "list", .ty "tuple"], .type "tuple", [.type "list", .type "tuple"], true, rfl, upd_same, .cons (.ty "list") (.cons (.ty "tuple") .nil), .base (.tup (((e.trans e2).trans (Ex.new hT)) _ _ hp)), by kernel_rfl, q _ (e2.trans (Ex.new hT))⟩⟩
end
/-- is_row of a row -/
def spRow (K : PySem.W.Frag) : Sp := fun vs H Q _ => ∃ (p : Addr) (xs : List V), vs = [.ref p] ∧ RowAt K H p xs ∧ ∀ H', Ex H H' → Q (.bl true) H'
/-- is_tuple_of of a tuple of so many things -/
def spTupOf (K : PySem.W.Frag) : Sp := fun vs H Q _ => ∃ (p : Addr) (xs : List V), vs = [.ref p, .int (xs.length : Int)] ∧ H p = some (.tup xs) ∧ xs.length ≤ 1000 ∧ ∀ H', Ex H H' → Q (.bl true) H'
/-- a constant: a number, a text, or none -/
inductive IntV : V → Bool → Prop where
  | int (i : Int) : IntV (.int i) true
  | str (z : Str) : IntV (.str z) false
  | non : IntV .non false
def spInt : Sp := fun vs H Q _ => ∃ (x : V) (b : Bool), vs = [x] ∧ IntV x b ∧ ∀ H', Ex H H' → Q (.bl b) H'
/-- is_within of a number, or of what is none -/
def spWithin : Sp := fun vs H Q _ => ∃ (x : V) (lo hi : Int) (b : Bool), vs = [x, .int lo, .int hi] ∧ ((∃ i, x = .int i ∧ b = (decide (lo ≤ i) && decide (i ≤ hi))) ∨ (IntV x false ∧ b = false)) ∧ ∀ H', Ex H H' → Q (.bl b) H'
section
variable {P : Program} {w : World} {K : PySem.W.Frag} {mg : Str → Option Value} {base : Heap}
theorem ok_isInteger {f : Addr} {fd : FuncData} (F : FnP K "is_integer" sIsInteger f fd) (B : Bt mg) : FnOk P w K mg base L2.CX0 1 f fd ["thing"] spInt := by
  refine F.ok scIsInteger (fun vs H Q E h => ?_) (fun cdv A outer s H vs Q E hr h => ?_)
  · obtain ⟨x, b, rfl, _⟩ := h
    rfl
  · obtain ⟨x, b, rfl, hx, q⟩ := h
    refine ⟨_, PSs.nox (pss_one (ps_ret (pe_and (pe_callB call_isi (by rfl) B.isi (by decide +kernel) (pa_cons (pv 0) (pa_cons (pe_bltn (v := .ty "int") (by rfl) B.int (by decide +kernel) rfl) pa_nil))) (pe_one (pe_not (pe_callB call_isi (by rfl) B.isi (by decide +kernel) (pa_cons (pv 0) (pa_cons (pe_bltn (v := .ty "bool") (by rfl) B.bool (by decide +kernel) rfl) pa_nil)))))))), ?_⟩
    cases hx with
    | int i => exact s_ret (ev_is (ev_andV (a := true) (b := true) (ev_isi (ev_var rfl) (.base (.int i)) (by decide +kernel)) fun _ => ev_is (ev_notV (a := false) (ev_isi (b := false) (ev_var rfl) (.base (.int i)) (by decide +kernel))) rfl) rfl) q
    | str z => exact s_ret (ev_is (ev_andV (a := false) (b := false) (ev_isi (ev_var rfl) (.base (.str z)) (by decide +kernel)) fun e => by cases e) rfl) q
    | non => exact s_ret (ev_is (ev_andV (a := false) (b := false) (ev_isi (ev_var rfl) (.base .non) (by decide +kernel)) fun e => by cases e) rfl) q
theorem ok_isRow {f : Addr} {fd : FuncData} (F : FnP K "is_row" sIsRow f fd) (B : Bt mg) : FnOk P w K mg base L2.CX0 1 f fd ["thing"] (spRow K) := by
  refine F.ok scIsRow (fun vs H Q E h => ?_) (fun cdv A outer s H vs Q E hr h => ?_)
  · obtain ⟨p, xs, rfl, _⟩ := h
    rfl
  · obtain ⟨p, xs, rfl, hp, q⟩ := h
    exact ⟨_, PSs.nox (pss_one (ps_ret (pe_callB call_isiT (by rfl) B.isi (by decide +kernel) (pa_cons (pv 0) (pa_cons (pe_tup (pa_cons (pe_bltn (v := .ty "list") (by rfl) B.list (by decide +kernel) rfl) (pa_cons (pe_bltn (v := .ty "tuple") (by rfl) B.tuple (by decide +kernel) rfl) pa_nil))) pa_nil))))), s_ret (ev_isiRow (ev_var rfl) hp) q⟩
end
end N8

set_option maxHeartbeats 4000000
/-! len(set(xs)), xs a list of texts that are all different. -/
namespace SD
open PySem PySem.Spec PyProof.Rows L2
section
variable {prog : Program} {w : World} {A : Around} {R : Result → Shared → Prop} {I : Addr} {fp wr : List Addr} {G : Array GenState → Array GenState → Prop} {n : Nat} {P : Nat → Value → Prop} {St : Nat → Shared → Prop}
/-- the set of the first i of xs, so many -/
abbrev Firsts (prog : Program) (w : World) (h : Heap) (S : Addr) (xs : List Str) (i : Nat) : Prop := h.SetOf (PySem.strKind prog w) S (fun y => (xs.take i).any (· == y)) i
theorem firsts_moved {h h' : Heap} {S : Addr} {xs : List Str} {i : Nat} (f : Firsts prog w h S xs i) (k : ∀ o, h.get? S = some o → h'.get? S = some o) : Firsts prog w h' S xs i := by
  obtain ⟨o, es, ep, t, ho, rest⟩ := f
  exact ⟨o, es, ep, t, k _ ho, rest⟩
theorem take_any {xs : List Str} {i : Nat} (hi : i < xs.length) (y : Str) : ((xs.take i).any (· == y) || decide (y = xs.getD i Str.empty)) = (xs.take (i + 1)).any (· == y) := by
  have e : xs.getD i Str.empty = xs[i] := by rw [List.getD_eq_getElem?_getD, List.getElem?_eq_getElem hi]; rfl
  rw [e, List.take_succ, List.getElem?_eq_getElem hi, List.any_append]
  congr 1
  by_cases q : y = xs[i]
  · rw [decide_eq_true q, q]; simp
  · rw [decide_eq_false q]
    have : (xs[i] == y) = false := by simpa using fun z : xs[i] = y => q z.symm
    simp [this]
theorem take_new {xs : List Str} (hd : xs.Nodup) {i : Nat} (hi : i < xs.length) : (xs.take i).any (· == xs.getD i Str.empty) = false := by
  have e : xs.getD i Str.empty = xs[i] := by rw [List.getD_eq_getElem?_getD, List.getElem?_eq_getElem hi]; rfl
  rw [e]
  refine List.any_eq_false.mpr fun y hy => ?_
  obtain ⟨j, hj, rfl⟩ := List.mem_take_iff_getElem.mp hy
  have hji : j < i := by omega
  have hne : xs[j] ≠ xs[i] := (List.pairwise_iff_getElem.mp hd) j i (by omega) hi hji
  simpa using hne
theorem loopD (W : WalksS prog w A.in1 I fp wr G n P St) (S : Addr) (apart : S ∉ fp) (xs : List Str) (len : xs.length = n) (dist : xs.Nodup) (room : n + 1 < scanBound) (texts : ∀ i v, P i v → ∃ t, v = .str (xs.getD i Str.empty) t) :
    ∀ (k i : Nat) (s : Shared), n - i = k → i ≤ n → St i s → Firsts prog w s.heap S xs i → (∀ s', Moved (S :: wr) G s s' → Firsts prog w s'.heap S xs n → R (.ok (.ret .none)) s') → codeAny (model prog w) A (.builtin "set.update.loop" ⟨[.ref S, .ref I], []⟩) R s := by
  have notw : S ∉ wr := fun h => apart (W.sub _ h)
  have more : ∀ b ∈ wr, b ∈ S :: wr := fun b hb => List.mem_cons_of_mem _ hb
  intro k
  induction k with
  | zero =>
    intro i s hk le st fs out
    obtain rfl : i = n := by omega
    refine codeAny_builtin PyProof.Rows.F.entry_set_update_loop (by
      rw [Around.under_plainId PyProof.Rows.F.plain_set_update_loop _]
      show wpAny _ A.in1 (pyNext (.ref I) >>= _) _ _ s
      refine wpAny_bind (W.done s _ _ st fun s' mv => ?_)
      show wpAny _ A.in1 (ret Value.none) _ _ s'
      exact wpAny_pure (out s' (mv.mono more) (firsts_moved fs fun o ho => mv.heap S _ notw ho)))
  | succ k ih =>
    intro i s hk le st fs out
    have lt : i < n := by omega
    have lx : i < xs.length := by omega
    refine codeAny_builtin PyProof.Rows.F.entry_set_update_loop (by
      rw [Around.under_plainId PyProof.Rows.F.plain_set_update_loop _]
      show wpAny _ A.in1 (pyNext (.ref I) >>= _) _ _ s
      refine wpAny_bind (W.item i s _ _ lt st fun v s' hP st' mv => ?_)
      obtain ⟨t, rfl⟩ := texts i v hP
      have fs' : Firsts prog w s'.heap S xs i := firsts_moved fs fun o ho => mv.heap S _ notw ho
      show wpAny _ A.in1 (holding [Value.str (xs.getD i Str.empty) t] (setAdd S (.str (xs.getD i Str.empty) t)) >>= _) _ _ s'
      refine wpAny_bind (wpAny_holding ?_)
      unfold setAdd
      refine wpAny_holding (wpAny_bind ((PySem.strKind prog w).pyHash (k := xs.getD i Str.empty) (strKind_is _ _ _ _) ?_))
      refine wpAny_setAddHashed_of (knd := PySem.strKind prog w) (s := { s' with toks := s'.toks + 1 }) (strKind_is _ _ _ _) rfl fs' (by omega) fun h' same fs2 => ?_
      have fs3 : Firsts prog w h' S xs (i + 1) := SetOf_congr fs2 (fun y => take_any lx y) (by rw [take_new dist lx]; rfl)
      refine wpAny_pure ⟨plainId_quiet PyProof.Rows.F.plain_set_update_loop _, ih (i + 1) _ (by omega) lt (W.frame _ s' _ _ st' (Nat.le_succ _) fun b hb o e => ?_) fs3 fun s'' mv2 fs4 => ?_⟩
      · rw [same.2 b (fun z : b = S => apart (by rw [← z]; exact hb))]; exact e
      · refine out s'' (Moved.trans W.gtrans ((mv.mono more).then_heap (Nat.le_succ _) fun b o hb e => ?_) mv2) fs4
        rw [same.2 b (fun z : b = S => hb (by rw [z]; exact List.mem_cons_self))]; exact e)
end
section
variable {prog : Program} {w : World} {A : Around} {E : Value → Shared → Prop} {s : Shared}
abbrev newSet (led : Bool) : Obj := { cls := .type "set", dict := none, data := .set #[] 0 (.fresh 0 0 led) }
theorem callSetD {l : Addr} {items : Array Value} {xs : List Str} {Q : Value → Shared → Prop} (calm : A.handled = none) (lst : s.heap.IsList l items) (txts : PyProof.Rows.StrsAre items.toList xs) (dist : xs.Nodup) (room : xs.length + 1 < scanBound)
    (z : ∀ (h' : Heap) (tk : Nat), Firsts prog w h' s.heap.objs.size xs items.size → (∀ b o, b < s.heap.objs.size → s.heap.get? b = some o → h'.get? b = some o) → Q (.ref s.heap.objs.size) { s with heap := h', toks := tk }) :
    wpAny (model prog w) A (call (.type "set") [.ref l]) Q E s := by
  obtain ⟨c, tl, _mro⟩ := PySem.F.called_set.mro
  have _made := PySem.F.called_set.made
  have _sub := PySem.F.called_set.sub
  refine wpAny_call (codeAny_of_tree (show wpAny _ _ (callAny (.type "set") _) _ _ _ from ?_))
  refine wpAny_pure ⟨Code.quiet_builtin _ (by decide +kernel), codeAny_builtin PySem.F.entry_type_call ?_⟩
  rw [Around.under_plain (weight_type_call_type "set" [.ref l] []) rfl]
  have _n1 := PySem.F.called_set.notType
  have _n2 := PySem.F.called_set.canCreate
  have _ct := PySem.F.typeCall_set_1 (.ref l)
  repeat (any_goals (first | assumption | wp_step))
  refine codeAny_mono (code_set_new_1 (.ref l) (E := E) (Q₁ := fun obj s₁ => ∃ led : Bool, obj = .ref s.heap.objs.size ∧ s₁ = { s with heap := s.heap.push (newSet led) }) fun led => ⟨led, rfl, rfl⟩) fun r s₁ hr => ?_
  cases r with
  | error e => exact hr
  | ok fl =>
    cases fl with
    | ret obj =>
      obtain ⟨led, rfl, rfl⟩ := hr
      have there : (s.heap.push (newSet led)).get? s.heap.objs.size = some (newSet led) := Heap.get?_push_size _ rfl
      have ty : Shared.TypeIs { s with heap := s.heap.push (newSet led) } (.ref s.heap.objs.size) "set" := ⟨_, there, rfl⟩
      have _li := PySem.F.called_set.init.lookup
      have _bi := PySem.F.called_set.init.bind (.ref s.heap.objs.size)
      repeat (any_goals (first | assumption | wp_step))
      refine codeAny_mono (codeAny_call_builtin (R := wants (fun r s₂ => r = .none ∧ ∃ h' tk, s₂ = { s with heap := h', toks := tk } ∧ Firsts prog w h' s.heap.objs.size xs items.size ∧ (∀ b o, b < s.heap.objs.size → s.heap.get? b = some o → h'.get? b = some o)) E)
        PySem.F.called_set.init.plain PySem.F.entry_set_init (check_set_init_1 ty ?_)) fun r₂ s₂ hr₂ => ?_
      · obtain ⟨ol, hol, cls, nl, dat⟩ := lst
        obtain ⟨ocls, odict, odata, oslots⟩ := ol
        simp only at cls dat
        subst cls dat
        have hol' : (s.heap.push (newSet led)).get? l = some { cls := .type "list", dict := odict, data := .seq items nl, slots := oslots } := Heap.get?_push_of_some _ hol
        have _s1 := PySem.F.sub_list_set
        have _s2 := PySem.F.sub_list_frozenset
        have _s3 : (Value.type "list" == Value.type "dict") = false := by decide
        have lst1 : (s.heap.push (newSet led)).IsList l items := ⟨_, hol', rfl, nl, rfl⟩
        unfold Builtin.«set.__init__» noKeywords Builtin.Frozenset.updateFrom
        generalize eqI : pyIter = PI
        wp_walk
        subst eqI
        refine wpAny_pyIter_list lst1 (wpAny_bind (wpAny_runValue ?_))
        have below : l < s.heap.objs.size := Heap.lt_size hol
        have calm3 : A.in1.in1.in1.handled = none := by simp [calm]
        have sz : (s.heap.push (newSet led)).objs.size = s.heap.objs.size + 1 := Heap.size_push _ _
        have ne1 : l ≠ (s.heap.push (newSet led)).objs.size := by rw [sz]; exact Nat.ne_of_lt (Nat.lt_succ_of_lt below)
        have apart : s.heap.objs.size ∉ [(s.heap.push (newSet led)).objs.size, l] := by
          rw [sz]
          simp only [List.mem_cons, List.mem_singleton, List.not_mem_nil, or_false, not_or]
          exact ⟨Nat.ne_of_lt (Nat.lt_succ_self _), Nat.ne_of_gt below⟩
        have len : xs.length = items.size := by rw [← StrsAre.len_eq txts, Array.length_toList]
        refine loopD ((Walks.list calm3 _ l ne1 items).toS) s.heap.objs.size apart xs len dist (by omega) (fun i v hv => SS.strs_at txts i v (by rw [Array.getElem?_toList]; exact hv)) (items.size - 0) 0 _ (by omega) (Nat.zero_le _)
          ⟨⟨_, Heap.get?_push_size _ rfl, rfl, rfl⟩, (lst1.push _)⟩ ?start ?out
        case start =>
          have got : ((s.heap.push (newSet led)).push { cls := .type "list_iterator", data := .fields #[.ref l, .int 0 0] }).get? s.heap.objs.size = some (newSet led) := Heap.get?_push_of_some _ there
          exact PyProof.Rows.SetOf_congr ((PyProof.Rows.setObjOf_fresh (knd := PySem.strKind prog w) led).setOf got (by unfold scanBound; omega)) (fun _ => rfl) rfl
        case out =>
          intro s' mv fs
          obtain ⟨h', g', d', tk', os'⟩ := s'
          obtain rfl : g' = s.gens := mv.gens
          obtain rfl : d' = s.drawn := mv.drawn
          obtain rfl : os' = s.os := mv.os
          show wpAny _ _ _ _ _ _
          refine wpAny_pure (show wpAny _ _ (ret Value.none) _ _ _ from wpAny_pure ⟨rfl, h', tk', rfl, fs, fun b o hb e => ?_⟩)
          have ne2 : b ≠ s.heap.objs.size ∧ b ≠ (s.heap.push (newSet led)).objs.size := ⟨Nat.ne_of_lt hb, by rw [sz]; exact Nat.ne_of_lt (Nat.lt_succ_of_lt hb)⟩
          exact mv.heap b o (by simp only [List.mem_cons, List.mem_singleton, List.not_mem_nil, or_false, not_or]; exact ne2) (Heap.get?_push_of_some _ (Heap.get?_push_of_some _ e))
      · cases r₂ with
        | error e => exact hr₂
        | ok fl₂ =>
          cases fl₂ with
          | ret r =>
            obtain ⟨rfl, h', tk, rfl, fs, kept⟩ := hr₂
            repeat (any_goals (first | assumption | wp_step))
            exact z _ _ fs kept
          | _ => exact hr₂.elim
    | _ => exact hr.elim
end
/-- len(set(xs)), xs a list of different texts -/
def tLenD (K : PySem.W.Frag) (ta : TE) : TE := fun σ H Q => ta σ H fun x H1 => ∃ l, ∃ xs : List Str, x = .ref l ∧ SqL K H1 l (xs.map V.str) ∧ xs.Nodup ∧ xs.length + 1 < scanBound ∧ Q (.int xs.length) H1
theorem pe_lenD {X : Cx} {a : Expr} {ta : TE} {p p2 q pos : Pos} (hc : X.calm = true) (hg : Gl X "len") (hm : X.mg "len" = none) (hg2 : Gl X "set") (hm2 : X.mg "set" = none) (ha : PE X a ta)
    (na : starEach [a] X.env = (false, eval a X.env) :: starEach [] X.env := by rfl) : PE X (.Call (.Name "len" p) [.Call (.Name "set" p2) [a] [] q] [] pos) (tLenD X.K ta) := by
  refine ⟨fun pins s σ H Q I h => ?_⟩
  refine Call_ (ld_blt I hg hm boot_len (PyProof.Rows.callWith_builtin1 (PyProof.Rows.args_cons ?_ rfl) rfl rfl))
  refine Call_ (ld_blt I hg2 hm2 boot_set ?_)
  refine PyProof.Rows.callWith_type1 (PyProof.Rows.args_cons (thn (ha.run pins s σ H _ I h) fun v s1 ⟨x, H1, I1, r1, l, xs, ex, hq, hd, hb, q1⟩ => PyProof.Rows.args_nil ?_) na) na rfl
  subst ex
  cases r1
  obtain ⟨its, r, pl, hz⟩ := I1.list hq
  refine callSetD (I1.ok.hd hc) pl.isList (by simpa using strsAre_of r) hd hb fun h' tk hS hk => PyProof.Rows.args_nil ?_
  have hl : its.toArray.size = xs.length := by rw [List.size_toArray, ← r.length, List.length_map]
  rw [hl] at hS
  obtain ⟨o, es, ep, t, ho, hex, hdt, _, _, _, hf, hn⟩ := hS
  have I2 : Inv X pins σ H1 { s1 with heap := h', toks := tk } := I1.kept fun b o e => hk b o (Heap.lt_size e) e
  exact call_len_set ho hex hdt hf (by rw [hn]; unfold scanBound at hb; omega) ⟨.int xs.length, H1, I2.tok _, ⟨_, by rw [hn]⟩, q1⟩
end SD

namespace N8
open PySem PySem.Spec PyProof.Rows L2 Evl
open SX (S)
def flags9 : List Str := ["public", "private", "protected", "static", "final", "synchronized", "abstract", "interface", "native"]
/-- words of a row of flags -/
def Flags (ws : List Str) : Prop := (∀ x ∈ ws, x ∈ flags9) ∧ ws.Nodup ∧ ws.length ≤ 20
def inOrder (ws : List Str) : List Str := flags9.filter fun x => decide (x ∈ ws)
theorem eqV_str (a b : Str) : eqV (.str a) (.str b) = decide (a = b) := by
  unfold eqV
  by_cases h : a = b
  · subst h; simp
  · simp [h]
theorem inV_strs (x : Str) (ws : List Str) : inV (.str x) (ws.map V.str) = decide (x ∈ ws) := by
  unfold inV
  rw [List.any_map]
  by_cases h : x ∈ ws
  · rw [decide_eq_true h]
    exact List.any_eq_true.mpr ⟨x, h, by show eqV (.str x) (.str x) = true; rw [eqV_str, decide_eq_true rfl]⟩
  · rw [decide_eq_false h]
    refine List.any_eq_false.mpr fun y hy => ?_
    show ¬ eqV (.str y) (.str x) = true
    rw [eqV_str]
    intro q
    exact h (of_decide_eq_true q ▸ hy)
theorem flat_strs (ws : List Str) : (ws.map V.str).all flatV = true := by
  rw [List.all_map]
  exact List.all_eq_true.mpr fun _ _ => rfl
section
variable {K : PySem.W.Frag} {σ : L2.St} {H H' : Hp} {te ta tb tl : TE} {t : TT} {r : R2} {v x : V} {D : Ends} {tz tu : TS} {Q : VK}
/-- [.. for x in a tuple] -/
theorem el_lcT {a : Addr} {xs : List V} {j : Nat} {vs : List Nat} (f : Nat → Bool) (v : Nat → V) (h : Ev tl σ H (.ref a)) (hx : ∀ H1, Ex H H1 → SqT K H1 a xs) (hz : xs.length ≤ 40000) (hw : ∀ x, wipe ((wipe σ vs).set j (some x)) vs = wipe σ vs)
    (ht : ∀ (i : Nat) (x : V) H1, Ex H H1 → xs[i]? = some x → EvT t ((wipe σ vs).set j (some x)) H1 (f i)) (he : ∀ (i : Nat) (x : V) H1, Ex H H1 → xs[i]? = some x → f i = true → Ev te ((wipe σ vs).set j (some x)) H1 (v i)) :
    EvL (tLc (iTup K tl) (gName j) t te vs) σ H (given xs.length f v) := fun H0 e Q q => h H0 e _ fun H1 e1 => ⟨a, rfl, ⟨xs, hx _ (e.trans e1)⟩, fun Dl hD =>
  lc_tup (xs := xs) (Cw H1 f v Dl) ⟨hD, Ex.new hD, upd_same⟩ (fun i H' _ p => hx _ ((e.trans e1).trans p.2.1)) (fun i x H' hi p => ⟨hw x, cw_turn p (by have := (List.getElem?_eq_some_iff.mp hi).1; omega) (ht i x H1 (e.trans e1) hi) (fun hf => he i x H1 (e.trans e1) hi hf)⟩)
    (fun H' p => q Dl H' (fresh_back e1 p.1) (e1.trans p.2.1) p.2.2)⟩
theorem ev_lenTup {p : Addr} {xs : List V} (h : Ev te σ H (.ref p)) (hp : H p = some (.tup xs)) : Ev (tCB (rLenS K) (tCons te tNil)) σ H (.int (xs.length : Int)) := fun H1 e Q q =>
  h H1 e _ fun H2 e2 => ⟨p, xs, rfl, .inr (st_of (e2 _ _ (e _ _ hp))), q H2 e2⟩
theorem ev_lenLst {p : Addr} {xs : List V} (h : Ev te σ H (.ref p)) (hp : H p = some (.lst xs)) : Ev (tCB (rLenS K) (tCons te tNil)) σ H (.int (xs.length : Int)) := fun H1 e Q q =>
  h H1 e _ fun H2 e2 => ⟨p, xs, rfl, .inl (sq_of (e2 _ _ (e _ _ hp))), q H2 e2⟩
theorem ev_lenD {p : Addr} {ws : List Str} (h : Ev te σ H (.ref p)) (hp : H p = some (.lst (ws.map V.str))) (hd : ws.Nodup) (hl : ws.length ≤ 20) : Ev (SD.tLenD K te) σ H (.int (ws.length : Int)) := fun H1 e Q q =>
  h H1 e _ fun H2 e2 => ⟨p, ws, rfl, sq_of (e2 _ _ (e _ _ hp)), hd, by unfold scanBound; omega, q H2 e2⟩
/-- tuple(xs), xs a new list -/
theorem eu_tupleL {xs : List V} (h : EvL te σ H xs) : EvU (tCB (fun xs H Q => ∃ p ys, xs = [.ref p] ∧ ((SqL K H p ys ∧ ∀ l, H l = none → Q (.ref l) (upd H l (.tup ys))) ∨ (SqT K H p ys ∧ Q (.ref p) H))) (tCons te tNil)) σ H xs := fun H1 e Q q =>
  h H1 e _ fun p H2 hp e2 h2 => ⟨p, xs, rfl, .inl ⟨sq_of h2, fun l hl => q l _ (fresh_back e2 hl) (e2.trans (Ex.new hl)) upd_same⟩⟩
end
theorem given_map (n : Nat) (v : Nat → V) : given n (fun _ => true) v = (List.range n).map v := by
  unfold given
  rw [List.filter_eq_self.mpr (fun _ _ => rfl)]
theorem given_strs {ws : List Str} (f : Str → Bool) : given ws.length (fun i => f (ws.getD i Str.empty)) (fun i => .str (ws.getD i Str.empty)) = (ws.filter f).map V.str := by
  have key : ∀ n, n ≤ ws.length → given n (fun i => f (ws.getD i Str.empty)) (fun i => V.str (ws.getD i Str.empty)) = ((ws.take n).filter f).map V.str := by
    intro n
    induction n with
    | zero => intro _; rfl
    | succ n ih =>
      intro h
      have hn : n < ws.length := by omega
      have e : ws.getD n Str.empty = ws[n] := by rw [List.getD_eq_getElem?_getD, List.getElem?_eq_getElem hn]; rfl
      have e2 : ws.take (n + 1) = ws.take n ++ [ws[n]] := by rw [List.take_succ, List.getElem?_eq_getElem hn]; rfl
      rw [e2, List.filter_append, List.map_append, ← ih (by omega)]
      cases hf : f (ws.getD n Str.empty) with
      | true =>
        rw [given_yes (f := fun i => f (ws.getD i Str.empty)) hf]
        rw [e] at hf ⊢
        rw [List.filter_cons_of_pos hf]; rfl
      | false =>
        rw [given_no (f := fun i => f (ws.getD i Str.empty)) hf]
        rw [e] at hf
        rw [List.filter_cons_of_neg (by rw [hf]; decide)]; simp
  rw [key ws.length (Nat.le_refl _), List.take_length]
/-- the tuple FLAGS, at aF -/
def Flg (K : PySem.W.Frag) (mg : Str → Option Value) : Prop := ∃ a, mg "FLAGS" = some (.ref a) ∧ ∀ H, SqT K H a (flags9.map V.str)
def spFlags : Sp := fun vs H Q _ => ∃ (p : Addr) (ws : List Str), vs = [.ref p] ∧ H p = some (.lst (ws.map V.str)) ∧ Flags ws ∧ ∀ H', Ex H H' → Q (.bl true) H'
def spInOrder : Sp := fun vs H Q _ => ∃ (p : Addr) (ws : List Str), vs = [.ref p] ∧ H p = some (.lst (ws.map V.str)) ∧ ∀ q H', H q = none → Ex H H' → H' q = some (.tup ((inOrder ws).map V.str)) → Q (.ref q) H'
section
variable {P : Program} {w : World} {K : PySem.W.Frag} {mg : Str → Option Value} {base : Heap}
theorem ok_isTupleOf {f : Addr} {fd : FuncData} (F : FnP K "is_tuple_of" sIsTupleOf f fd) (B : Bt mg) : FnOk P w K mg base L2.CX0 1 f fd ["thing", "many"] (spTupOf K) := by
  refine F.ok scIsTupleOf (fun vs H Q E h => ?_) (fun cdv A outer s H vs Q E hr h => ?_)
  · obtain ⟨p, xs, rfl, _⟩ := h
    rfl
  · obtain ⟨p, xs, rfl, hp, hl, q⟩ := h
    refine ⟨_, PSs.nox (pss_one (ps_ret (pe_and (pe_callB call_isi (by rfl) B.isi (by decide +kernel) (pa_cons (pv 0) (pa_cons (pe_bltn (v := .ty "tuple") (by rfl) B.tuple (by decide +kernel) rfl) pa_nil))) (pe_one (pe_cmpR op_eq (pe_callB call_len_seq (by rfl) B.len PySem.boot_len (pa_cons (pv 0) pa_nil)) (pv 1) (nomark _)))))), ?_⟩
    exact s_ret (ev_is (ev_andV (a := true) (b := true) (ev_isi (ev_var rfl) (.base (.tup hp)) (by decide +kernel)) fun _ => ev_op (ev_lenTup (ev_var rfl) hp) (ev_var rfl) (rv_is rv_eqI (by rw [decide_eq_true rfl]))) rfl) q
theorem ok_isWithin {f : Addr} {fd : FuncData} (F : FnP K "is_within" sIsWithin f fd) (B : Bt mg) (c_is_integer : Cl P w K mg base L2.CX0 1 "is_integer" ["thing"] spInt) : FnOk P w K mg base L2.CX0 2 f fd ["thing", "low", "high"] spWithin := by
  refine F.ok scIsWithin (fun vs H Q E h => ?_) (fun cdv A outer s H vs Q E hr h => ?_)
  · obtain ⟨x, lo, hi, b, rfl, _⟩ := h
    rfl
  · obtain ⟨x, lo, hi, b, rfl, hx, q⟩ := h
    refine ⟨_, PSs.nox (pss_one (ps_ret (pe_and (pe_cl c_is_integer hr (by decide) (by rfl) (pa_cons (pv 0) pa_nil)) (pe_one (pe_chain op_le op_le (pv 1) (pv 0) (pv 2)))))), ?_⟩
    rcases hx with ⟨i, rfl, rfl⟩ | ⟨hx, rfl⟩
    · exact s_ret (ev_is (ev_andV (a := true) (b := decide (lo ≤ i) && decide (i ≤ hi)) (ev_call (ea_cons (ev_var rfl) ea_nil) fun H1 e Q' q' E' => ⟨_, true, rfl, .int i, fun H' e' => q' H' e'⟩) fun _ => ev_chain (a := decide (lo ≤ i)) (b := decide (i ≤ hi)) (ev_var rfl) (ev_var rfl) rv_le fun _ => ⟨ev_var rfl, rv_le⟩) rfl) q
    · exact s_ret (ev_is (ev_andV (a := false) (b := false) (ev_call (ea_cons (ev_var rfl) ea_nil) fun H1 e Q' q' E' => ⟨_, false, rfl, hx, fun H' e' => q' H' e'⟩) fun e => by cases e) rfl) q
theorem ok_rowOfFlags {f : Addr} {fd : FuncData} (F : FnP K "_is_row_of_flags" sIsRowOfFlags f fd) (B : Bt mg) (gF : Flg K mg) (c_is_row : Cl P w K mg base L2.CX0 1 "is_row" ["thing"] (spRow K)) : FnOk P w K mg base L2.CX0 2 f fd ["thing"] spFlags := by
  obtain ⟨aF, g_FLAGS, hF⟩ := gF
  refine F.ok scIsRowOfFlags (fun vs H Q E h => ?_) (fun cdv A outer s H vs Q E hr h => ?_)
  · obtain ⟨p, ws, rfl, _⟩ := h
    rfl
  · obtain ⟨p, ws, rfl, hp, hf, q⟩ := h
    refine ⟨_, PSs.nox (pss_cons (ps_if (PW.pt (pw_or (pt_not (pt_val (pe_cl c_is_row hr (by decide) (by rfl) (pa_cons (pv 0) pa_nil)))) (pw_or1 (pt_not (pt_val (pe_callB (cr_all rfl) (by rfl) B.all (by decide +kernel) (pa_cons (pe_lc (own := [("word", 1)]) (g := gName 1) (tt := tYes) rfl scIsRowOfFlags.nd (pi_list (pv 0)) (blkOk_by (N := ["thing", "word"]) (sc := L2.defScope sIsRowOfFlags) (by decide +kernel)) (fun _ _ _ _ _ => pg_name (i := 1) scIsRowOfFlags.nd rfl (Or.inl rfl)) (fun _ _ _ _ _ => pts_nil) (fun _ _ _ _ _ => (pe_cmpR (r := rIn K false) op_in_seq (pv 1) (pe_glob (v := .ref aF) (by rfl) g_FLAGS rfl) rfl))) pa_nil))))))) (pss_one (ps_ret pe_bl)) pss_nil)
      (pss_one (ps_ret (pe_cmpR op_eq (SD.pe_lenD rfl (by rfl) B.len (by rfl) B.set (pv 0)) (pe_callB call_len_seq (by rfl) B.len PySem.boot_len (pa_cons (pv 0) pa_nil)) (nomark _))))), ?_⟩
    refine q_when (b := false) (et_is (et_or (a := false) (b := false) (et_is (et_not (et_test (ev_call (ea_cons (ev_var rfl) ea_nil) fun H1 e Q' q' E' => ⟨p, _, rfl, .inl (e _ _ hp), q'⟩))) rfl) fun _ => et_is (et_not (et_test (ev_all (bs := ws.map fun _ => true) ?_))) ?_) rfl) (fun e => by cases e) fun _ H1 x1 => ?_
    · rw [show (ws.map fun _ => true).map V.bl = given (ws.map V.str).length (fun _ => true) (fun _ => V.bl true) by rw [given_map, List.length_map]; simp [List.map_const']]
      refine el_lcL (xs := ws.map V.str) (fun _ => true) (fun _ => V.bl true) (ev_var rfl) (sq_of hp) (by rw [List.length_map]; have := hf.2.2; omega) (fun _ => rfl) (fun i y H2 x2 hy => fun H3 e3 Q' q' => q' H3 (Ex.refl H3)) (fun i y H2 x2 hy _ => ?_)
      obtain ⟨z, hz, rfl⟩ := List.mem_map.mp (List.mem_of_getElem? hy)
      have hin : inV (.str z) (flags9.map V.str) = true := by rw [inV_strs]; exact decide_eq_true (hf.1 z hz)
      exact ev_is (ev_op (ev_var rfl) ev_c (rv_isT (hF _) rfl (flat_strs _))) (by rw [hin])
    · rw [List.all_map]
      show (!(ws.all fun _ => true)) = false
      rw [List.all_eq_true.mpr (fun _ _ => rfl)]; rfl
    · exact s_ret (ev_op (ev_lenD (ev_var rfl) (x1 _ _ hp) hf.2.1 hf.2.2) (ev_lenLst (ev_var rfl) (x1 _ _ hp)) (rv_is rv_eqI (by rw [List.length_map, decide_eq_true rfl]))) fun H2 x2 => q H2 (x1.trans x2)
theorem ok_inOrder {f : Addr} {fd : FuncData} (F : FnP K "_in_order" sInOrder f fd) (B : Bt mg) (gF : Flg K mg) : FnOk P w K mg base L2.CX0 1 f fd ["flags"] spInOrder := by
  obtain ⟨aF, g_FLAGS, hF⟩ := gF
  refine F.ok scInOrder (fun vs H Q E h => ?_) (fun cdv A outer s H vs Q E hr h => ?_)
  · obtain ⟨p, ws, rfl, _⟩ := h
    rfl
  · obtain ⟨p, ws, rfl, hp, q⟩ := h
    refine ⟨_, PSs.nox (pss_one (ps_ret (pe_callTy call_tuple_of (by rfl) B.tuple (by decide +kernel) (pa_cons (pe_lc (own := [("word", 1)]) (g := gName 1) rfl scInOrder.nd (pi_tup (pe_glob (v := .ref aF) (by rfl) g_FLAGS rfl)) (blkOk_by (N := ["flags", "word"]) (sc := L2.defScope sInOrder) (by decide +kernel)) (fun _ _ _ _ _ => pg_name (i := 1) scInOrder.nd rfl (Or.inl rfl)) (fun _ _ _ _ _ => (pts_one (pt_cmpR (r := rIn K false) op_in_seq (pv 1) (pv 0) rfl))) (fun _ _ _ _ _ => (pv 1))) pa_nil)))), ?_⟩
    refine s_retU (eu_tupleL (xs := (inOrder ws).map V.str) ?_) fun r H1 hr x1 h1 => q r H1 hr x1 h1
    have e : (inOrder ws).map V.str = given (flags9.map V.str).length (fun i => decide (flags9.getD i Str.empty ∈ ws)) (fun i => V.str (flags9.getD i Str.empty)) := by
      rw [List.length_map]
      exact (given_strs (ws := flags9) fun x => decide (x ∈ ws)).symm
    rw [e]
    refine el_lcT (xs := flags9.map V.str) _ _ ev_c (fun H1 _ => hF H1) (by decide) (fun _ => rfl) (fun i y H1 x1 hy => ?_) (fun i y H1 x1 hy _ => ?_)
    · rw [List.getElem?_map] at hy
      obtain ⟨z, hz, rfl⟩ := Option.map_eq_some_iff.mp hy
      have ez : flags9.getD i Str.empty = z := by rw [List.getD_eq_getElem?_getD, hz]; rfl
      rw [ez]
      exact et_test (ev_is (ev_op (ev_var rfl) (ev_var rfl) (rv_isL (sq_of (x1 _ _ hp)) rfl (flat_strs _))) (by rw [inV_strs]))
    · rw [List.getElem?_map] at hy
      obtain ⟨z, hz, rfl⟩ := Option.map_eq_some_iff.mp hy
      have ez : flags9.getD i Str.empty = z := by rw [List.getD_eq_getElem?_getD, hz]; rfl
      rw [ez]
      exact ev_var rfl
end
end N8

namespace N8
open PySem PySem.Spec PyProof.Rows L2 Evl
open SX (S)
/-- a statement that is never reached -/
theorem ps_never {X : Cx} {st : Stmt} : PS X st (fun _ _ _ => False) := ⟨fun _ _ _ _ _ _ h => h.elim⟩
def signsL : List Nat := [32, 33, 34, 35, 36, 38, 39, 40, 41, 42, 43, 44, 45, 46, 47, 48, 49, 50, 51, 52, 53, 54, 55, 56, 57, 58, 59, 60, 61, 62, 63, 64, 65, 66, 67, 68, 69, 70, 71, 72, 73, 74, 75, 76, 77, 78, 79, 80, 81, 82, 83, 84, 85, 86, 87, 88, 89, 90, 91, 92, 93, 94, 95, 96, 97, 98, 99, 100, 101, 102, 103, 104, 105, 106, 107, 108, 109, 110, 111, 112, 113, 114, 115, 116, 117, 118, 119, 120, 121, 122, 123, 124, 125, 126]
def isTextSign (c : Nat) : Bool := decide (c ∈ signsL)
def spText : Sp := fun vs H Q _ => ∃ l, vs = [.str (S l)] ∧ l.length ≤ 20000 ∧ ∀ H', Ex H H' → Q (.bl (l.all isTextSign)) H'
/-- a constant of a field -/
def ConstOk (x : V) : Prop := x = .non ∨ (∃ i : Int, x = .int i ∧ -9223372036854775808 ≤ i ∧ i ≤ 9223372036854775807) ∨ ∃ l, x = .str (S l) ∧ l.length ≤ 200 ∧ l.all isTextSign = true
def spConst : Sp := fun vs H Q _ => ∃ x, vs = [x] ∧ ConstOk x ∧ ∀ H', Ex H H' → Q (.bl true) H'
def spString : Sp := fun vs H Q _ => ∃ l, vs = [.str (S l)] ∧ l.length ≤ 200 ∧ l.all isTextSign = true ∧ ∀ H', Ex H H' → Q (.bl true) H'
section
variable {K : PySem.W.Frag} {σ : L2.St} {H H' : Hp} {te ta tb tl : TE} {t : TT} {r : R2} {v x : V} {D : Ends} {tz tu : TS} {Q : VK}
theorem rv_inS {c : Nat} {l : List Nat} {z : Str} (ez : z = S l) : RV (fun x y H Q => ∃ (c : Nat) (z : Str), x = .str ⟨#[c]⟩ ∧ y = .str z ∧ Q (.bl (decide (c ∈ z.cps.toList))) H) (.str (S [c])) (.str z) H (.bl (decide (c ∈ l))) := fun H1 e Q q => by
  subst ez
  exact ⟨c, S l, rfl, rfl, q H1 (Ex.refl H1)⟩
end
section
variable {P : Program} {w : World} {K : PySem.W.Frag} {mg : Str → Option Value} {base : Heap}
theorem ok_isText {f : Addr} {fd : FuncData} (F : FnP K "is_text" sIsText f fd) (B : Bt mg) (gS : ∃ z t, z = S signsL ∧ mg "SIGNS" = some (.str z t)) : FnOk P w K mg base L2.CX0 2 f fd ["thing"] spText := by
  obtain ⟨zS, tS, eS, g_SIGNS⟩ := gS
  refine F.ok scIsText (fun vs H Q E h => ?_) (fun cdv A outer s H vs Q E hr h => ?_)
  · obtain ⟨l, rfl, _⟩ := h
    rfl
  · obtain ⟨l, rfl, hl, q⟩ := h
    refine ⟨_, PSs.nox (pss_one (ps_ret (pe_and (pe_callB call_isi (by rfl) B.isi (by decide +kernel) (pa_cons (pv 0) (pa_cons (pe_bltn (v := .ty "str") (by rfl) B.str (by decide +kernel) rfl) pa_nil))) (pe_one (pe_callB (cr_all rfl) (by rfl) B.all (by decide +kernel) (pa_cons (pe_lc (own := [("sign", 1)]) (g := gName 1) (tt := tYes) rfl scIsText.nd (pi_str (pv 0)) (blkOk_by (N := ["thing", "sign"]) (sc := L2.defScope sIsText) (by decide +kernel)) (fun _ _ _ _ _ => pg_name (i := 1) scIsText.nd rfl (Or.inl rfl)) (fun _ _ _ _ _ => pts_nil) (fun _ _ _ _ _ => (pe_cmpR op_in_sign (pv 1) (pe_glob (v := .str zS) (by rfl) g_SIGNS ⟨_, rfl⟩) rfl))) pa_nil)))))), ?_⟩
    refine s_ret (ev_is (ev_andV (a := true) (b := (l.map isTextSign).all id) (ev_isStr (ev_var rfl)) fun _ => ev_all (bs := l.map isTextSign) ?_) ?_) q
    · rw [← map_bl, ← given_all l (fun c => V.bl (isTextSign c)) (fun i => .bl (isTextSign (l.getD i 0))) (fun i c h => by rw [getD_of h])]
      refine el_lcS (fun _ => true) _ (ev_var rfl) (by omega) (fun _ => rfl) (fun i c H2 _ hc => fun H3 e3 Q q => q H3 (Ex.refl H3)) (fun i c H2 _ hc _ => ?_)
      rw [getD_of hc]
      exact ev_op (ev_var rfl) ev_c (rv_inS eS)
    · rw [all_map]; rfl
theorem ok_isString {f : Addr} {fd : FuncData} (F : FnP K "is_string" sIsString f fd) (B : Bt mg) (gL : ∃ t, mg "LONGEST_STRING" = some (.int 200 t)) (c_is_text : Cl P w K mg base L2.CX0 2 "is_text" ["thing"] spText) : FnOk P w K mg base L2.CX0 3 f fd ["thing"] spString := by
  obtain ⟨tL, g_LONGEST_STRING⟩ := gL
  refine F.ok scIsString (fun vs H Q E h => ?_) (fun cdv A outer s H vs Q E hr h => ?_)
  · obtain ⟨l, rfl, _⟩ := h
    rfl
  · obtain ⟨l, rfl, hl, hA, q⟩ := h
    refine ⟨_, PSs.nox (pss_one (ps_ret (pe_and (pe_callB call_isi (by rfl) B.isi (by decide +kernel) (pa_cons (pv 0) (pa_cons (pe_bltn (v := .ty "str") (by rfl) B.str (by decide +kernel) rfl) pa_nil))) (pe_and (pe_cmpR op_le (pe_callB call_len_str (by rfl) B.len PySem.boot_len (pa_cons (pv 0) pa_nil)) (pe_glob (v := .int 200) (by rfl) g_LONGEST_STRING ⟨_, rfl⟩) (nomark _)) (pe_one (pe_cl c_is_text hr (by decide) (by rfl) (pa_cons (pv 0) pa_nil))))))), ?_⟩
    exact s_ret (ev_is (ev_andV (a := true) (b := true) (ev_isStr (ev_var rfl)) fun _ => ev_is (ev_andV (a := true) (b := true) (ev_op (ev_lenS (ev_var rfl) (by omega)) ev_c (rv_is rv_le (by rw [decide_eq_true (by omega)]))) fun _ => ev_call (ea_cons (ev_var rfl) ea_nil) fun H1 e Q' q' E' => ⟨l, rfl, by omega, fun H2 e2 => by rw [hA]; exact q' H2 e2⟩) rfl) rfl) q
theorem ok_isConstant {f : Addr} {fd : FuncData} (F : FnP K "_is_constant" sIsConstant f fd) (B : Bt mg) (gA : ∃ t, mg "LEAST_LONG" = some (.int (-9223372036854775808) t)) (gB : ∃ t, mg "GREATEST_LONG" = some (.int 9223372036854775807 t))
    (c_is_within : Cl P w K mg base L2.CX0 2 "is_within" ["thing", "low", "high"] spWithin) (c_is_string : Cl P w K mg base L2.CX0 3 "is_string" ["thing"] spString) : FnOk P w K mg base L2.CX0 4 f fd ["thing"] spConst := by
  obtain ⟨tA, g_LEAST_LONG⟩ := gA
  obtain ⟨tB, g_GREATEST_LONG⟩ := gB
  refine F.ok scIsConstant (fun vs H Q E h => ?_) (fun cdv A outer s H vs Q E hr h => ?_)
  · obtain ⟨x, rfl, _⟩ := h
    rfl
  · obtain ⟨x, rfl, hx, q⟩ := h
    refine ⟨_, PSs.nox (pss_one (ps_ret (pe_or (pe_cmpR op_isN (pv 0) pe_non (nomark _)) (pe_or (pe_cl c_is_within hr (by decide) (by rfl) (pa_cons (pv 0) (pa_cons (pe_glob (v := .int (-9223372036854775808)) (by rfl) g_LEAST_LONG ⟨_, rfl⟩) (pa_cons (pe_glob (v := .int 9223372036854775807) (by rfl) g_GREATEST_LONG ⟨_, rfl⟩) pa_nil)))) (pe_one (pe_cl c_is_string hr (by decide) (by rfl) (pa_cons (pv 0) pa_nil))))))), ?_⟩
    rcases hx with rfl | ⟨i, rfl, h1, h2⟩ | ⟨l, rfl, hl, hA⟩
    · exact s_ret (ev_is (ev_orV (a := true) (b := true) (fun H1 e Q q => ⟨.non, rfl, rfl, q H1 (Ex.refl H1)⟩) fun e => by cases e) rfl) q
    · exact s_ret (ev_is (ev_orV (a := false) (b := true) (fun H1 e Q q => ⟨_, rfl, rfl, q H1 (Ex.refl H1)⟩) fun _ => ev_is (ev_orV (a := true) (b := true) (ev_call (ea_cons (ev_var rfl) (ea_cons ev_c (ea_cons ev_c ea_nil))) fun H1 e Q' q' E' => ⟨_, _, _, true, rfl, .inl ⟨i, rfl, by rw [decide_eq_true h1, decide_eq_true h2]; rfl⟩, fun H' e' => q' H' e'⟩) fun e => by cases e) rfl) rfl) q
    · exact s_ret (ev_is (ev_orV (a := false) (b := true) (fun H1 e Q q => ⟨_, rfl, rfl, q H1 (Ex.refl H1)⟩) fun _ => ev_is (ev_orV (a := false) (b := true) (ev_call (ea_cons (ev_var rfl) (ea_cons ev_c (ea_cons ev_c ea_nil))) fun H1 e Q' q' E' => ⟨_, _, _, false, rfl, .inr ⟨.str _, rfl⟩, fun H' e' => q' H' e'⟩) fun _ => ev_call (ea_cons (ev_var rfl) ea_nil) fun H1 e Q' q' E' => ⟨l, rfl, hl, hA, fun H' e' => q' H' e'⟩) rfl) rfl) q
end
end N8

namespace N8
open PySem PySem.Spec PyProof.Rows L2 Evl
open SX (S)
/-- all but what stands at a is as it was -/
def Exa (a : Addr) (H H' : Hp) : Prop := ∀ b o, b ≠ a → H b = some o → H' b = some o
theorem Exa.of {a : Addr} {H H' : Hp} (e : Ex H H') : Exa a H H' := fun b o _ h => e b o h
/-- the items of ys are to those of xs as Pe says -/
def Each (Pe : V → V → Hp → Prop) (H : Hp) (xs ys : List V) : Prop := ys.length = xs.length ∧ ∀ (i : Nat) x y, xs[i]? = some x → ys[i]? = some y → Pe x y H
section
variable {K : PySem.W.Frag} {σ : L2.St} {H H' : Hp} {te ta tb tl : TE} {t : TT} {r : R2} {v x : V} {D : Ends} {tz tu : TS} {Q : VK}
theorem lc_each {a : Addr} {xs : List V} {g : TG} {vs : List Nat} (Pe : V → V → Hp → Prop) (mono : ∀ {x y : V} {H H' : Hp} {D : Addr} {l : List V}, H D = some (.lst l) → Exa D H H' → Pe x y H → Pe x y H')
    (h : Ev tl σ H (.ref a)) (hx : SqL K H a xs) (hz : xs.length ≤ 40000)
    (he : ∀ x H1, x ∈ xs → Ex H H1 → ∀ Q : VK, (∀ y H2, Ex H1 H2 → Pe x y H2 → Q y H2) → g x (wipe σ vs) H1 fun σ2 H2 => wipe σ2 vs = wipe σ vs ∧ te σ2 H2 Q)
    (k : ∀ Dl ys H1, H Dl = none → Ex H H1 → H1 Dl = some (.lst ys) → Each Pe H1 xs ys → Q (.ref Dl) H1) : tLc (iList K tl) g tYes te vs σ H Q :=
  h H (Ex.refl H) _ fun H1 e1 => ⟨a, rfl, ⟨xs, ex_l e1 hx⟩, fun Dl hD => by
    refine lc_list (xs := xs) (fun i H2 => Ex H1 H2 ∧ ∃ ys, H2 Dl = some (.lst ys) ∧ ys.length = i ∧ ∀ (j : Nat) x y, xs[j]? = some x → ys[j]? = some y → Pe x y H2) ⟨Ex.new hD, [], upd_same, rfl, fun j x y _ hy => by simp at hy⟩
      (fun i H2 _ p => ex_l (e1.trans p.1) hx) (fun i x H2 hi p => ?_) (fun H2 p => ?_)
    · obtain ⟨p1, ys, p2, p3, p4⟩ := p
      have hil := (List.getElem?_eq_some_iff.mp hi).1
      have step := he x H2 (List.mem_of_getElem? hi) (e1.trans p1) (fun y H4 => ∃ acc, H4 Dl = some (.lst acc) ∧ acc.length < sizeLine ∧ (Ex H1 (upd H4 Dl (.lst (acc ++ [y]))) ∧ ∃ ys', (upd H4 Dl (.lst (acc ++ [y]))) Dl = some (.lst ys') ∧ ys'.length = i + 1 ∧ ∀ (j : Nat) x y', xs[j]? = some x → ys'[j]? = some y' → Pe x y' (upd H4 Dl (.lst (acc ++ [y]))))) (fun y H4 e4 hy => ?_)
      · exact step
      · have hxa : Exa Dl H4 (upd H4 Dl (.lst (ys ++ [y]))) := fun b o hb hbo => by rw [upd_ne hb]; exact hbo
        refine ⟨ys, e4 _ _ p2, sz_lt (by omega), (p1.trans e4).mut hD, _, upd_same, by rw [List.length_append, p3]; rfl, fun j x' y' hx' hy' => ?_⟩
        by_cases hj : j < ys.length
        · rw [List.getElem?_append_left hj] at hy'
          exact mono (e4 _ _ p2) hxa (mono p2 (Exa.of e4) (p4 j x' y' hx' hy'))
        · have : j = ys.length := by
            have := (List.getElem?_eq_some_iff.mp hy').1
            rw [List.length_append] at this
            simp at this
            omega
          subst this
          rw [List.getElem?_append_right (Nat.le_refl _), Nat.sub_self] at hy'
          obtain rfl : y = y' := by simpa using hy'
          rw [p3, hi] at hx'
          obtain rfl := Option.some.inj hx'
          exact mono (e4 _ _ p2) hxa hy
    · obtain ⟨p1, ys, p2, p3, p4⟩ := p
      exact k Dl ys H2 (fresh_back e1 hD) (e1.trans p1) p2 ⟨p3, p4⟩⟩
end
/-! ### fields and methods -/
/-- a member: name, descriptor, flags, and what it has -/
structure Mem where
  name : List Nat
  desc : List Nat
  ws : List Str
  x : V
/-- as it is handed in -/
def MemAt (H : Hp) (v : V) (m : Mem) : Prop := ∃ t fl, v = .ref t ∧ H t = some (.tup [.str (S m.name), .str (S m.desc), .ref fl, m.x]) ∧ H fl = some (.lst (m.ws.map V.str))
/-- as it is kept -/
def KeptAt (H : Hp) (v : V) (m : Mem) : Prop := ∃ t fl, v = .ref t ∧ H t = some (.tup [.str (S m.name), .str (S m.desc), .ref fl, m.x]) ∧ H fl = some (.tup ((inOrder m.ws).map V.str))
theorem MemAt.ex {H H' : Hp} {v : V} {m : Mem} (h : MemAt H v m) (e : Ex H H') : MemAt H' v m := by
  obtain ⟨t, fl, h1, h2, h3⟩ := h
  exact ⟨t, fl, h1, e _ _ h2, e _ _ h3⟩
theorem KeptAt.exa {H H' : Hp} {v : V} {m : Mem} {D : Addr} {l : List V} (hD : H D = some (.lst l)) (e : Exa D H H') (h : KeptAt H v m) : KeptAt H' v m := by
  obtain ⟨t, fl, h1, h2, h3⟩ := h
  have n1 : t ≠ D := fun z => by rw [z, hD] at h2; cases h2
  have n2 : fl ≠ D := fun z => by rw [z, hD] at h3; cases h3
  exact ⟨t, fl, h1, e _ _ n1 h2, e _ _ n2 h3⟩
theorem KeptAt.ex {H H' : Hp} {v : V} {m : Mem} (h : KeptAt H v m) (e : Ex H H') : KeptAt H' v m := by
  obtain ⟨t, fl, h1, h2, h3⟩ := h
  exact ⟨t, fl, h1, e _ _ h2, e _ _ h3⟩
/-- rows of members -/
inductive Mems (R : V → Mem → Prop) : List V → List Mem → Prop where
  | nil : Mems R [] []
  | cons {v : V} {m : Mem} {vs : List V} {ms : List Mem} : R v m → Mems R vs ms → Mems R (v :: vs) (m :: ms)
theorem Mems.imp {R R' : V → Mem → Prop} {vs : List V} {ms : List Mem} (h : Mems R vs ms) (f : ∀ v m, R v m → R' v m) : Mems R' vs ms := by
  induction h with
  | nil => exact .nil
  | cons h1 _ ih => exact .cons (f _ _ h1) ih
theorem Mems.len {R : V → Mem → Prop} {vs : List V} {ms : List Mem} (h : Mems R vs ms) : vs.length = ms.length := by
  induction h with
  | nil => rfl
  | cons _ _ ih => exact congrArg Nat.succ ih
theorem Mems.get {R : V → Mem → Prop} {vs : List V} {ms : List Mem} (h : Mems R vs ms) {v : V} (hv : v ∈ vs) : ∃ m ∈ ms, R v m := by
  induction h with
  | nil => cases hv
  | cons h1 _ ih =>
    rcases List.mem_cons.mp hv with e | e
    · exact ⟨_, List.mem_cons_self, e ▸ h1⟩
    · obtain ⟨m, hm, r⟩ := ih e
      exact ⟨m, List.mem_cons_of_mem _ hm, r⟩
theorem Mems.map {R R' : V → Mem → Prop} : ∀ {vs ys : List V} {ms : List Mem}, Mems R vs ms → ys.length = vs.length → (∀ (i : Nat) x y, vs[i]? = some x → ys[i]? = some y → ∀ m, R x m → R' y m) → Mems R' ys ms
  | [], [], _, .nil, _, _ => .nil
  | [], _ :: _, _, _, hl, _ => by cases hl
  | _ :: _, [], _, _, hl, _ => by cases hl
  | x :: vs, y :: ys, _, .cons h1 h2, hl, f => .cons (f 0 x y rfl rfl _ h1) (Mems.map h2 (Nat.succ.inj hl) fun i x' y' hx hy m hm => f (i + 1) x' y' (by simpa using hx) (by simpa using hy) m hm)
end N8

namespace N8
open PySem PySem.Spec PyProof.Rows L2 Evl
open SX (S)
def cl (K : PySem.W.Frag) (x : Str) : Addr := He.ga K x
/-- a method may be called so -/
def isMName (l : List Nat) : Bool := isNameL l || inV (.str (S l)) [.str "<init>", .str "<clinit>"]
def spMName : Sp := fun vs H Q _ => ∃ l, vs = [.str (S l)] ∧ l.length ≤ 20000 ∧ ∀ H', Ex H H' → Q (.bl (isMName l)) H'
def spMDesc : Sp := fun vs H Q _ => ∃ l ps, vs = [.str (S l)] ∧ l.length ≤ 10000 ∧ partsL l = some ps ∧ ∀ H', Ex H H' → Q (.bl true) H'
/-- a field as it may be -/
structure FieldOk (m : Mem) : Prop where
  n : isNameL m.name = true
  nl : m.name.length ≤ 20000
  d : isFieldL m.desc = true
  dl : m.desc.length ≤ 10000
  f : Flags m.ws
  c : ConstOk m.x
def spIsField : Sp := fun vs H Q _ => ∃ v m, vs = [v] ∧ MemAt H v m ∧ FieldOk m ∧ ∀ H', Ex H H' → Q (.bl true) H'
/-- what a method has: a Code, an Uncut, none -/
def CodeV (K : PySem.W.Frag) (H : Hp) (x : V) : Prop := x = .non ∨ (∃ a dx fs, x = .ref a ∧ H a = some (.ins (cl K "Code") dx fs)) ∨ ∃ a dx fs, x = .ref a ∧ H a = some (.ins (cl K "Uncut") dx fs)
theorem CodeV.ex {K : PySem.W.Frag} {H H' : Hp} {x : V} (h : CodeV K H x) (e : Ex H H') : CodeV K H' x := by
  rcases h with h | ⟨a, dx, fs, h1, h2⟩ | ⟨a, dx, fs, h1, h2⟩
  · exact .inl h
  · exact .inr (.inl ⟨a, dx, fs, h1, e _ _ h2⟩)
  · exact .inr (.inr ⟨a, dx, fs, h1, e _ _ h2⟩)
structure MethOk (m : Mem) : Prop where
  n : isMName m.name = true
  nl : m.name.length ≤ 20000
  d : ∃ ps, partsL m.desc = some ps
  dl : m.desc.length ≤ 10000
  f : Flags m.ws
def spIsMethod (K : PySem.W.Frag) : Sp := fun vs H Q _ => ∃ v m, vs = [v] ∧ MemAt H v m ∧ MethOk m ∧ CodeV K H m.x ∧ ∀ H', Ex H H' → Q (.bl true) H'
/-- Code and Uncut, as isinstance asks them -/
structure CU (K : PySem.W.Frag) (mg : Str → Option Value) : Prop where
  gC : mg "Code" = some (.ref (cl K "Code"))
  gU : mg "Uncut" = some (.ref (cl K "Uncut"))
  iC : C8.InsC K (cl K "Code")
  iU : C8.InsC K (cl K "Uncut")
  no : PySem.W.kitOne K (.ref (cl K "Uncut")) (.ref (cl K "Code")) = some false
section
variable {K : PySem.W.Frag} {σ : L2.St} {H H' : Hp} {te : TE}
theorem ev_isC {a dx C D : Addr} {fs : List (Str × V)} {b : Bool} (h : Ev te σ H (.ref a)) (ha : H a = some (.ins C dx fs)) (c : C8.InsC K C) (k : PySem.W.kitOne K (.ref C) (.ref D) = some b) : Ev (tCB (rIsi K) (tCons te (tCons (tC (.ref D)) tNil))) σ H (.bl b) := fun H1 e Q q =>
  h H1 e _ fun H2 e2 => ⟨.ref a, .ref D, .ref C, .ref D, b, rfl, .own D, .base (TyOf.ins ((e.trans e2) _ _ ha) c.cl c.ha c.hn c.htk c.hm), k, q H2 e2⟩
theorem tup4 {t : Addr} {a b c d : V} (h : H t = some (.tup [a, b, c, d])) {i j k l : Nat} {Q : L2.St → Hp → Prop} (q : Q ((((σ.set i (some a)).set j (some b)).set k (some c)).set l (some d)) H) :
    gTup K 4 (gCons (gName i) (gCons (gName j) (gCons (gName k) (gCons (gName l) gNil)))) (.ref t) σ H Q := ⟨t, _, rfl, st_of h, rfl, _, _, rfl, _, _, rfl, _, _, rfl, _, _, rfl, rfl, q⟩
end
section
variable {P : Program} {w : World} {K : PySem.W.Frag} {mg : Str → Option Value} {base : Heap}
theorem ok_isMName {f : Addr} {fd : FuncData} (F : FnP K "is_method_name" sIsMethodName f fd) (B : Bt mg) (c_is_name : Cl P w K mg base L2.CX0 2 "is_name" ["thing"] (spName K isNameL)) : FnOk P w K mg base L2.CX0 3 f fd ["thing"] spMName := by
  refine F.ok scIsMethodName (fun vs H Q E h => ?_) (fun cdv A outer s H vs Q E hr h => ?_)
  · obtain ⟨l, rfl, _⟩ := h
    rfl
  · obtain ⟨l, rfl, hl, q⟩ := h
    refine ⟨_, PSs.nox (pss_one (ps_ret (pe_or (pe_cl c_is_name hr (by decide) (by rfl) (pa_cons (pv 0) pa_nil)) (pe_one (pe_cmpR op_in_seq (pv 0) (pe_tup (pa_cons pe_str (pa_cons pe_str pa_nil))) rfl))))), ?_⟩
    exact s_ret (ev_orV (a := isNameL l) (ev_call (ea_cons (ev_var rfl) ea_nil) fun H1 e Q' q' E' => ⟨_, _, rfl, .inl ⟨l, rfl, hl, rfl⟩, fun H' e' => q' H' e'⟩) fun _ => ev_inU (ev_var rfl) (eu_tup (ea_cons ev_c (ea_cons ev_c ea_nil)) (by show 2 ≤ 100000; decide)) rfl rfl) q
theorem ok_isMDesc {f : Addr} {fd : FuncData} (F : FnP K "is_method_descriptor" sIsMethodDescriptor f fd) (B : Bt mg) (c_method_parts : Cl P w K mg base L2.CX0 6 "_method_parts" ["thing"] (spParts K)) : FnOk P w K mg base L2.CX0 7 f fd ["thing"] spMDesc := by
  refine F.ok scIsMethodDescriptor (fun vs H Q E h => ?_) (fun cdv A outer s H vs Q E hr h => ?_)
  · obtain ⟨l, ps, rfl, _⟩ := h
    rfl
  · obtain ⟨l, ps, rfl, hl, hp, q⟩ := h
    refine ⟨_, PSs.nox (pss_one (ps_ret (pe_cmpR op_notN (pe_cl c_method_parts hr (by decide) (by rfl) (pa_cons (pv 0) pa_nil)) pe_non (nomark _)))), ?_⟩
    refine s_ret (v := .bl true) (fun H1 e Q' q' => ?_) q
    refine ⟨.str (S l), rfl, ⟨.str (S l), partsL l, rfl, .inl ⟨l, rfl, by omega, rfl⟩, ?_⟩⟩
    rw [hp]
    exact fun r H2 hr e2 h2 => ⟨rfl, q' H2 e2⟩
theorem ok_isField2 {f : Addr} {fd : FuncData} (F : FnP K "_is_field" sIsField f fd) (B : Bt mg) (c_is_name : Cl P w K mg base L2.CX0 2 "is_name" ["thing"] (spName K isNameL)) (c_is_field_descriptor : Cl P w K mg base L2.CX0 5 "is_field_descriptor" ["thing"] (spName K isFieldL))
    (c_is_row_of_flags : Cl P w K mg base L2.CX0 2 "_is_row_of_flags" ["thing"] spFlags) (c_is_constant : Cl P w K mg base L2.CX0 4 "_is_constant" ["thing"] spConst) : FnOk P w K mg base L2.CX0 6 f fd ["member"] spIsField := by
  refine F.ok scIsField (fun vs H Q E h => ?_) (fun cdv A outer s H vs Q E hr h => ?_)
  · obtain ⟨v, m, rfl, _⟩ := h
    rfl
  · obtain ⟨v, m, rfl, ⟨t, fl, rfl, ht, hfl⟩, ok, q⟩ := h
    refine ⟨_, PSs.nox (pss_cons (ps_asg (pv 0) (pg_tup rfl (pgs_cons (pg_name (i := 1) scIsField.nd rfl (.inl rfl)) (pgs_cons (pg_name (i := 2) scIsField.nd rfl (.inl rfl)) (pgs_cons (pg_name (i := 3) scIsField.nd rfl (.inl rfl)) (pgs_cons (pg_name (i := 4) scIsField.nd rfl (.inl rfl)) pgs_nil))))))
      (pss_one (ps_ret (pe_and (pe_cl c_is_name hr (by decide) (by rfl) (pa_cons (pv 1) pa_nil)) (pe_and (pe_cl c_is_field_descriptor hr (by decide) (by rfl) (pa_cons (pv 2) pa_nil)) (pe_and (pe_cl c_is_row_of_flags hr (by decide) (by rfl) (pa_cons (pv 3) pa_nil)) (pe_one (pe_cl c_is_constant hr (by decide) (by rfl) (pa_cons (pv 4) pa_nil))))))))), ?_⟩
    refine ⟨.ref t, rfl, tup4 ht ?_⟩
    refine s_ret (ev_is (ev_andV (a := true) (b := true) (ev_is (ev_call (ea_cons (ev_var rfl) ea_nil) fun H1 e Q' q' E' => ⟨_, _, rfl, .inl ⟨m.name, rfl, ok.nl, rfl⟩, fun H' e' => q' H' e'⟩) (by rw [ok.n])) fun _ => ev_is (ev_andV (a := true) (b := true) (ev_is (ev_call (ea_cons (ev_var rfl) ea_nil) fun H1 e Q' q' E' => ⟨_, _, rfl, .inl ⟨m.desc, rfl, by have := ok.dl; omega, rfl⟩, fun H' e' => q' H' e'⟩) (by rw [ok.d])) fun _ =>
      ev_is (ev_andV (a := true) (b := true) (ev_call (ea_cons (ev_var rfl) ea_nil) fun H1 e Q' q' E' => ⟨fl, m.ws, rfl, e _ _ hfl, ok.f, q'⟩) fun _ => ev_call (ea_cons (ev_var rfl) ea_nil) fun H1 e Q' q' E' => ⟨m.x, rfl, ok.c, q'⟩) rfl) rfl) rfl) q
theorem ok_isMethod {f : Addr} {fd : FuncData} (F : FnP K "_is_method" sIsMethod f fd) (B : Bt mg) (cu : CU K mg) (c_is_method_name : Cl P w K mg base L2.CX0 3 "is_method_name" ["thing"] spMName) (c_is_method_descriptor : Cl P w K mg base L2.CX0 7 "is_method_descriptor" ["thing"] spMDesc)
    (c_is_row_of_flags : Cl P w K mg base L2.CX0 2 "_is_row_of_flags" ["thing"] spFlags) : FnOk P w K mg base L2.CX0 8 f fd ["member"] (spIsMethod K) := by
  have g_Code := cu.gC
  have g_Uncut := cu.gU
  refine F.ok scIsMethod (fun vs H Q E h => ?_) (fun cdv A outer s H vs Q E hr h => ?_)
  · obtain ⟨v, m, rfl, _⟩ := h
    rfl
  · obtain ⟨v, m, rfl, ⟨t, fl, rfl, ht, hfl⟩, ok, hc, q⟩ := h
    obtain ⟨ps, hps⟩ := ok.d
    refine ⟨_, PSs.nox (pss_cons (ps_asg (pv 0) (pg_tup rfl (pgs_cons (pg_name (i := 1) scIsMethod.nd rfl (.inl rfl)) (pgs_cons (pg_name (i := 2) scIsMethod.nd rfl (.inl rfl)) (pgs_cons (pg_name (i := 3) scIsMethod.nd rfl (.inl rfl)) (pgs_cons (pg_name (i := 4) scIsMethod.nd rfl (.inl rfl)) pgs_nil))))))
      (pss_cons (ps_if (PW.pt (pw_or (pt_not (pt_val (pe_cl c_is_method_name hr (by decide) (by rfl) (pa_cons (pv 1) pa_nil)))) (pw_or (pt_not (pt_val (pe_cl c_is_method_descriptor hr (by decide) (by rfl) (pa_cons (pv 2) pa_nil)))) (pw_or1 (pt_not (pt_val (pe_cl c_is_row_of_flags hr (by decide) (by rfl) (pa_cons (pv 3) pa_nil)))))))) (pss_one (ps_ret pe_bl)) pss_nil)
      (pss_one (ps_ret (pe_or (pe_cmpR op_isN (pv 4) pe_non (nomark _)) (pe_or (pe_callB call_isi (by rfl) B.isi (by decide +kernel) (pa_cons (pv 4) (pa_cons (pe_glob (v := .ref (cl K "Code")) (by rfl) g_Code rfl) pa_nil))) (pe_one (pe_callB call_isi (by rfl) B.isi (by decide +kernel) (pa_cons (pv 4) (pa_cons (pe_glob (v := .ref (cl K "Uncut")) (by rfl) g_Uncut rfl) pa_nil)))))))))), ?_⟩
    refine ⟨.ref t, rfl, tup4 ht ?_⟩
    refine q_when (b := false) (et_is (et_or (a := false) (b := false) (et_is (et_not (et_test (ev_is (ev_call (ea_cons (ev_var rfl) ea_nil) fun H1 e Q' q' E' => ⟨m.name, rfl, ok.nl, q'⟩) (by rw [ok.n])))) rfl) fun _ => et_is (et_or (a := false) (b := false) (et_is (et_not (et_test (ev_call (ea_cons (ev_var rfl) ea_nil) fun H1 e Q' q' E' => ⟨m.desc, ps, rfl, ok.dl, hps, q'⟩))) rfl) fun _ =>
      et_is (et_not (et_test (ev_call (ea_cons (ev_var rfl) ea_nil) fun H1 e Q' q' E' => ⟨fl, m.ws, rfl, e _ _ hfl, ok.f, q'⟩))) rfl) rfl) rfl) (fun e => by cases e) fun _ H1 x1 => ?_
    rcases hc with hx | ⟨a, dx, fs, hx, ha⟩ | ⟨a, dx, fs, hx, ha⟩
    · exact s_ret (ev_is (ev_orV (a := true) (b := true) (fun H2 e Q' q' => ⟨m.x, rfl, rfl, by rw [hx]; exact q' H2 (Ex.refl H2)⟩) fun e => by cases e) rfl) fun H2 x2 => q H2 (x1.trans x2)
    · exact s_ret (ev_is (ev_orV (a := false) (b := true) (fun H2 e Q' q' => ⟨m.x, rfl, rfl, by rw [hx]; exact q' H2 (Ex.refl H2)⟩) fun _ => ev_is (ev_orV (a := true) (b := true) (ev_isC (a := a) (ev_is (ev_var rfl) hx) (x1 _ _ ha) cu.iC cu.iC.me) fun e => by cases e) rfl) rfl) fun H2 x2 => q H2 (x1.trans x2)
    · exact s_ret (ev_is (ev_orV (a := false) (b := true) (fun H2 e Q' q' => ⟨m.x, rfl, rfl, by rw [hx]; exact q' H2 (Ex.refl H2)⟩) fun _ => ev_is (ev_orV (a := false) (b := true) (ev_isC (a := a) (ev_is (ev_var rfl) hx) (x1 _ _ ha) cu.iU cu.no) fun _ => ev_isC (a := a) (ev_is (ev_var rfl) hx) (x1 _ _ ha) cu.iU cu.iU.me) rfl) rfl) fun H2 x2 => q H2 (x1.trans x2)
end
end N8

set_option maxHeartbeats 1000000
namespace N8
open PySem PySem.Spec PyProof.Rows L2 Evl
open SX (S)
section
variable {K : PySem.W.Frag} {σ : L2.St} {H H' : Hp} {te ta tb tl : TE} {t : TT} {r : R2} {v x : V} {D : Ends} {tz tu : TS} {Q : VK}
/-- for i, x in enumerate(xs) -/
theorem for_enumX {a : Addr} {xs : List V} {g : TG} (Pv : Nat → L2.St → Hp → Prop) (h0 : Pv 0 σ H) (hl : ∀ i σ H, Pv i σ H → SqL K H a xs)
    (hs : ∀ i x σ H T, xs[i]? = some x → Pv i σ H → H T = none → g (.ref T) σ (upd H T (.tup [.int (i : Nat), x])) fun σ2 H2 => tu { D with nx := Pv (i + 1), ct := Pv (i + 1), bk := D.nx } σ2 H2) (hd : ∀ σ H, Pv xs.length σ H → D.nx σ H) :
    ∃ W : Nat → Nat → L2.St → Hp → Prop, (∃ m, W 0 m σ H) ∧ ∀ i m σ H, W i m σ H → ((Ite K a).stop i H ∧ D.nx σ H) ∨ ((Ite K a).go i H ∧ ∃ N : L2.St → Hp → Prop, (∀ σ' H', N σ' H' → ∃ m', m' < m ∧ W (i + 1) m' σ' H') ∧ ∀ x H', (Ite K a).yld i H x H' → g x σ H' fun σ2 H2 => tu { D with nx := N, ct := N, bk := D.nx } σ2 H2) := by
  refine ⟨fun i m σ H => m = xs.length - i ∧ i ≤ xs.length ∧ Pv i σ H, ⟨_, rfl, Nat.zero_le _, h0⟩, fun i m σ H hW => ?_⟩
  obtain ⟨em, hi, p⟩ := hW
  have q := hl i σ H p
  by_cases hlt : i < xs.length
  · refine .inr ⟨⟨xs, xs[i], q, List.getElem?_eq_getElem hlt⟩, Pv (i + 1), fun σ' H' p' => ⟨xs.length - (i + 1), by omega, rfl, hlt, p'⟩, fun v H' y => ?_⟩
    obtain ⟨T, x, e1, e2, e3, e4⟩ := y
    subst e1 e3
    exact hs i x σ H T (e4 xs q) p e2
  · obtain rfl : i = xs.length := by omega
    exact .inl ⟨⟨xs, q, Nat.le_refl _⟩, hd σ H p⟩
theorem rd_ret (h : te σ H D.rt) : tRet te D σ H := h
theorem rd_cb {r : List V → Hp → VK → Prop} {ta : TA} (h : ta σ H fun vs H1 => r vs H1 Q) : tCB r ta σ H Q := h
theorem rd_cons {QL : List V → Hp → Prop} {ta : TA} (h : te σ H fun x H1 => ta σ H1 fun xs H2 => QL (x :: xs) H2) : tCons te ta σ H QL := h
theorem rd_tup {ta : TA} (h : ta σ H fun xs H1 => xs.length ≤ sizeLine ∧ ∀ p, H1 p = none → Q (.ref p) (upd H1 p (.tup xs))) : tTup ta σ H Q := h
theorem rd_ev (h : Ev te σ H v) (k : ∀ H1, Ex H H1 → Q v H1) : te σ H Q := h H (Ex.refl H) Q k
theorem rd_call {sp : Sp} {ta : TA} (h : ta σ H fun vs H1 => sp (vs ++ []) H1 Q L2.E0) : tCall sp [] L2.E0 ta σ H Q := h
theorem rd_nil {QL : List V → Hp → Prop} (h : QL [] H) : tNil σ H QL := h
abbrev rTupOf (K : PySem.W.Frag) : List V → Hp → VK → Prop := fun xs H Q => ∃ p ys, xs = [.ref p] ∧ ((SqL K H p ys ∧ ∀ l, H l = none → Q (.ref l) (upd H l (.tup ys))) ∨ (SqT K H p ys ∧ Q (.ref p) H))
/-- tuple(xs), xs a list -/
theorem eu_tupleV {p : Addr} {xs : List V} (h : Ev te σ H (.ref p)) (hp : H p = some (.lst xs)) : EvU (tCB (rTupOf K) (tCons te tNil)) σ H xs := fun H1 e Q q =>
  h H1 e _ fun H2 e2 => ⟨p, xs, rfl, .inl ⟨sq_of ((e.trans e2) _ _ hp), fun l hl => q l _ (fresh_back e2 hl) (e2.trans (Ex.new hl)) upd_same⟩⟩
end
/-- interfaces as they may be -/
def FacesOk (fs : List (List Nat)) : Prop := ∀ l ∈ fs, isClassL l = true ∧ l.length ≤ 20000
def spFaces : Sp := fun vs H Q _ => ∃ (p : Addr) (fs : List (List Nat)), vs = [.ref p] ∧ H p = some (.lst (fs.map N8.vs)) ∧ FacesOk fs ∧ ∀ q H', H q = none → Ex H H' → H' q = some (.tup (fs.map N8.vs)) → Q (.ref q) H'
def spKept (K : PySem.W.Frag) (fF fM : Addr) : Sp := fun vs H Q _ => ∃ (p f : Addr) (z : Str) (xs : List V) (ms : List Mem), vs = [.ref p, .str z, .ref f] ∧ H p = some (.lst xs) ∧ xs.length ≤ 1000 ∧ Mems (MemAt H) xs ms ∧
  ((f = fF ∧ ∀ m ∈ ms, FieldOk m) ∨ (f = fM ∧ f ≠ fF ∧ ∀ m ∈ ms, MethOk m ∧ CodeV K H m.x)) ∧ ∀ q ys H', H q = none → Ex H H' → H' q = some (.tup ys) → Mems (KeptAt H') ys ms → Q (.ref q) H'
/-- what a parameter that holds a def promises -/
def memS (K : PySem.W.Frag) (fF fM : Addr) : Addr → Option Sp := fun f => if f = fF then some spIsField else if f = fM then some (spIsMethod K) else none
section
variable {P : Program} {w : World} {K : PySem.W.Frag} {mg : Str → Option Value} {base : Heap}
theorem ok_keptInterfaces {f : Addr} {fd : FuncData} (F : FnP K "_kept_interfaces" sKeptInterfaces f fd) (B : Bt mg) (c_is_row : Cl P w K mg base L2.CX0 1 "is_row" ["thing"] (spRow K)) (c_is_class_name : Cl P w K mg base L2.CX0 3 "is_class_name" ["thing"] (spName K isClassL)) :
    FnOk P w K mg base L2.CX0 4 f fd ["interfaces"] spFaces := by
  refine F.ok scKeptInterfaces (fun vs H Q E h => ?_) (fun cdv A outer s H vs Q E hr h => ?_)
  · obtain ⟨p, fs, rfl, _⟩ := h
    rfl
  · obtain ⟨p, fs, rfl, hp, ok, q⟩ := h
    refine ⟨_, PSs.nox (pss_cons (ps_if (pt_not (pt_val (pe_cl c_is_row hr (by decide) (by rfl) (pa_cons (pv 0) pa_nil)))) (pss_one ps_never) pss_nil)
      (pss_cons (ps_for PassesOwn.never rfl (pi_enum (by rfl) B.enumerate (pa_cons (pv 0) pa_nil)) (pg_tup rfl (pgs_cons (pg_name (i := 1) scKeptInterfaces.nd rfl (.inl rfl)) (pgs_cons (pg_name (i := 2) scKeptInterfaces.nd rfl (.inl rfl)) pgs_nil))) (pss_one (ps_if (pt_not (pt_val (pe_cl c_is_class_name hr (by decide) (by rfl) (pa_cons (pv 2) pa_nil)))) (pss_one ps_never) pss_nil)))
      (pss_one (ps_ret (pe_callTy call_tuple_of (by rfl) B.tuple (by decide +kernel) (pa_cons (pv 0) pa_nil)))))), ?_⟩
    refine q_when (b := false) (et_is (et_not (et_test (ev_call (ea_cons (ev_var rfl) ea_nil) fun H1 e Q' q' E' => ⟨p, _, rfl, .inl (e _ _ hp), q'⟩))) rfl) (fun e => by cases e) fun _ H1 x1 => ?_
    refine ⟨.ref p, rfl, p, _, rfl, sq_of (x1 _ _ hp), ?_⟩
    refine for_enumX (xs := fs.map N8.vs) (fun i σ' H' => Ex H1 H' ∧ ∃ v1 v2, σ' = [some (.ref p), v1, v2]) ⟨Ex.refl _, none, none, rfl⟩ (fun i σ' H' hP => ex_l (x1.trans hP.1) (sq_of hp)) (fun i x σ' H' T hx hP hT => ?_) (fun σ' H' hP => ?_)
    · obtain ⟨e, v1, v2, rfl⟩ := hP
      obtain ⟨l, hl, rfl⟩ := List.mem_map.mp (List.mem_of_getElem? hx)
      refine ⟨T, _, rfl, st_of upd_same, rfl, .int (i : Nat), [N8.vs l], rfl, N8.vs l, [], rfl, rfl, ?_⟩
      exact s_when (b := false) (et_is (et_not (et_test (ev_is (ev_call (ea_cons (ev_var rfl) ea_nil) fun H2 e2 Q' q' E' => ⟨_, _, rfl, .inl ⟨l, rfl, (ok l hl).2, rfl⟩, fun H3 e3 => q' H3 e3⟩) (by rw [(ok l hl).1])))) rfl) (fun e => by cases e) fun _ H3 x3 => ⟨(e.trans (Ex.new hT)).trans x3, _, _, rfl⟩
    · obtain ⟨e, v1, v2, rfl⟩ := hP
      exact s_retU (eu_tupleV (ev_var rfl) ((x1.trans e) _ _ hp)) fun r H3 hr x3 h3 => q r H3 (fresh_back (x1.trans e) hr) ((x1.trans e).trans x3) h3
theorem ok_keptMembers {f fF fM : Addr} {fd : FuncData} (F : FnP K "_kept_members" sKeptMembers f fd) (B : Bt mg) (hHeld : ∀ f sp, memS K fF fM f = some sp → Held P w K mg base 8 f sp)
    (c_is_row : Cl P w K mg base L2.CX0 1 "is_row" ["thing"] (spRow K)) (c_is_tuple_of : Cl P w K mg base L2.CX0 1 "is_tuple_of" ["thing", "many"] (spTupOf K)) (c_in_order : Cl P w K mg base L2.CX0 1 "_in_order" ["flags"] spInOrder) :
    FnOk P w K mg base L2.CX0 9 f fd ["members", "word", "is_member"] (spKept K fF fM) := by
  refine F.ok scKeptMembers (fun vs H Q E h => ?_) (fun cdv A outer s H vs Q E hr h => ?_)
  · obtain ⟨p, f, z, xs, ms, rfl, _⟩ := h
    rfl
  · obtain ⟨p, fm, z, xs, ms, rfl, hp, hlen, hM, hf, q⟩ := h
    refine ⟨_, PSs.nox (pss_cons (ps_if (pt_not (pt_val (pe_cl c_is_row hr (by decide) (by rfl) (pa_cons (pv 0) pa_nil)))) (pss_one ps_never) pss_nil)
      (pss_cons (ps_for PassesOwn.never rfl (pi_enum (by rfl) B.enumerate (pa_cons (pv 0) pa_nil)) (pg_tup rfl (pgs_cons (pg_name (i := 3) scKeptMembers.nd rfl (.inl rfl)) (pgs_cons (pg_name (i := 4) scKeptMembers.nd rfl (.inl rfl)) pgs_nil))) (pss_one (ps_if (PW.pt (pw_or (pt_not (pt_val (pe_cl c_is_tuple_of hr (by decide) (by rfl) (pa_cons (pv 4) (pa_cons pe_int pa_nil))))) (pw_or1 (pt_not (pt_val (pe_callA (i := 2) hHeld (hr.mono (by decide)) rfl (Or.inl rfl) (pa_cons (pv 4) pa_nil))))))) (pss_one ps_never) pss_nil)))
      (pss_one (ps_ret (pe_callTy call_tuple_of (by rfl) B.tuple (by decide +kernel) (pa_cons (pe_lc (own := [("name", 5), ("descriptor", 6), ("flags", 7), ("worth", 8)]) (g := gTup K 4 (gCons (gName 5) (gCons (gName 6) (gCons (gName 7) (gCons (gName 8) gNil))))) (tt := tYes) rfl scKeptMembers.nd (pi_list (pv 0)) (blkOk_by (N := ["members", "word", "is_member", "number", "member", "name", "descriptor", "flags", "worth"]) (sc := L2.defScope sKeptMembers) (by decide +kernel)) (fun _ _ _ _ _ => (pg_tup rfl (pgs_cons (pg_name (i := 5) scKeptMembers.nd rfl (.inl rfl)) (pgs_cons (pg_name (i := 6) scKeptMembers.nd rfl (.inl rfl)) (pgs_cons (pg_name (i := 7) scKeptMembers.nd rfl (.inl rfl)) (pgs_cons (pg_name (i := 8) scKeptMembers.nd rfl (.inl rfl)) pgs_nil)))))) (fun _ _ _ _ _ => pts_nil) (fun _ _ _ _ _ => (pe_tup (pa_cons (pv 5) (pa_cons (pv 6) (pa_cons (pe_cl c_in_order hr (by decide) (by rfl) (pa_cons (pv 7) pa_nil)) (pa_cons (pv 8) pa_nil))))))) pa_nil)))))), ?_⟩
    refine q_when (b := false) (et_is (et_not (et_test (ev_call (ea_cons (ev_var rfl) ea_nil) fun H1 e Q' q' E' => ⟨p, _, rfl, .inl (e _ _ hp), q'⟩))) rfl) (fun e => by cases e) fun _ H1 x1 => ?_
    refine ⟨.ref p, rfl, p, _, rfl, sq_of (x1 _ _ hp), ?_⟩
    refine for_enumX (xs := xs) (fun i σ' H' => Ex H1 H' ∧ ∃ v3 v4 v5 v6 v7 v8, σ' = [some (.ref p), some (.str z), some (.ref fm), v3, v4, v5, v6, v7, v8]) ⟨Ex.refl _, none, none, none, none, none, none, rfl⟩ (fun i σ' H' hP => ex_l (x1.trans hP.1) (sq_of hp)) (fun i x σ' H' T hx hP hT => ?_) (fun σ' H' hP => ?_)
    · obtain ⟨e, v3, v4, v5, v6, v7, v8, rfl⟩ := hP
      obtain ⟨m, hm, hmem⟩ := hM.get (List.mem_of_getElem? hx)
      have eT : Ex H (upd H' T (.tup [.int (i : Nat), x])) := (x1.trans e).trans (Ex.new hT)
      have hmem2 := hmem.ex eT
      refine ⟨T, _, rfl, st_of upd_same, rfl, .int (i : Nat), [x], rfl, x, [], rfl, rfl, ?_⟩
      have hmem3 := hmem2
      obtain ⟨t, fl, rfl, ht, hfl⟩ := hmem3
      refine s_when (b := false) (et_is (et_or (a := false) (b := false) (et_is (et_not (et_test (ev_call (ea_cons (ev_var rfl) (ea_cons ev_c ea_nil)) fun H2 e2 Q' q' E' => ⟨t, _, rfl, e2 _ _ ht, by show 4 ≤ 1000; decide, q'⟩))) rfl) fun _ => et_is (et_not (et_test (b := true) fun H2 e2 Q' q' => ?_)) rfl) rfl) (fun e => by cases e) fun _ H3 x3 => ⟨(e.trans (Ex.new hT)).trans x3, _, _, _, _, _, _, rfl⟩
      rcases hf with ⟨rfl, ok⟩ | ⟨rfl, hne, ok⟩
      · refine ⟨_, spIsField, rfl, by unfold memS; rw [if_pos rfl], ?_⟩
        exact ea_cons (ev_var rfl) ea_nil H2 (Ex.refl H2) _ fun H3 e3 => ⟨_, m, rfl, hmem2.ex (e2.trans e3), ok m hm, fun H4 e4 => q' H4 (e3.trans e4)⟩
      · refine ⟨_, spIsMethod K, rfl, by unfold memS; rw [if_neg hne, if_pos rfl], ?_⟩
        exact ea_cons (ev_var rfl) ea_nil H2 (Ex.refl H2) _ fun H3 e3 => ⟨_, m, rfl, hmem2.ex (e2.trans e3), (ok m hm).1, (ok m hm).2.ex ((eT.trans e2).trans e3), fun H4 e4 => q' H4 (e3.trans e4)⟩
    · obtain ⟨e, v3, v4, v5, v6, v7, v8, rfl⟩ := hP
      have e0 := x1.trans e
      dsimp only
      refine rd_ret (rd_cb (rd_cons (lc_each (K := K) (tl := tVar 0) (vs := [5, 6, 7, 8]) (g := gTup K 4 (gCons (gName 5) (gCons (gName 6) (gCons (gName 7) (gCons (gName 8) gNil))))) (H := H') (σ := [some (.ref p), some (.str z), some (.ref fm), v3, v4, v5, v6, v7, v8]) (xs := xs) (fun x y H2 => ∀ m, MemAt H x m → KeptAt H2 y m) (fun hD xa hP m hm => (hP m hm).exa hD xa) (ev_var rfl) (sq_of (e0 _ _ hp)) (by omega) (fun x H2 hx e2 Q' hQ => ?_) (fun Dl ys H2 hD e2 h2 hE => ?_))))
      · obtain ⟨m, hm, hmem⟩ := hM.get hx
        obtain ⟨t, fl, rfl, ht, hfl⟩ := hmem
        refine tup4 ((e0.trans e2) _ _ ht) ⟨rfl, ?_⟩
        refine rd_tup (rd_cons (rd_ev (ev_var rfl) fun H3 e3 => rd_cons (rd_ev (ev_var rfl) fun H4 e4 => rd_cons (rd_call (rd_cons (rd_ev (ev_var rfl) fun H4' e4' => rd_nil ?_))))))
        refine ⟨fl, m.ws, rfl, ((e0.trans e2).trans ((e3.trans e4).trans e4')) _ _ hfl, fun r H5 hr e5 h5 => rd_cons (rd_ev (ev_var rfl) fun H6 e6 => rd_nil ⟨by show 4 ≤ sizeLine; decide, fun u hu => ?_⟩)⟩
        refine hQ (.ref u) _ (((((e3.trans e4).trans e4').trans e5).trans e6).trans (Ex.new hu)) fun m' hm' => ?_
        obtain ⟨t', fl', et', ht', hfl'⟩ := hm'
        cases et'
        have e1 := ht.symm.trans ht'
        simp only [Option.some.injEq, HO.tup.injEq, List.cons.injEq, V.str.injEq, V.ref.injEq] at e1
        obtain ⟨q1, q2, rfl, q4, _⟩ := e1
        have q5 := hfl.symm.trans hfl'
        have q6 : m.ws = m'.ws := by
          have := HO.lst.inj (Option.some.inj q5)
          exact (List.map_inj_right fun _ _ h => V.str.inj h).mp this
        have r6 : r ≠ u := fun z => by rw [← z, e6 _ _ h5] at hu; cases hu
        refine ⟨u, r, rfl, by rw [upd_same, q1, q2, q4], ?_⟩
        rw [upd_ne r6, ← q6]
        exact e6 _ _ h5
      · refine ⟨Dl, ys, rfl, .inl ⟨sq_of h2, fun l hl => ?_⟩⟩
        refine q l ys _ (fresh_back (e0.trans e2) hl) ((e0.trans e2).trans (Ex.new hl)) upd_same ?_
        exact Mems.map (hM.imp fun v m h => h) hE.1 fun i x y hx hy m hm => (hE.2 i x y hx hy m hm).ex (Ex.new hl)
end
end N8

set_option maxHeartbeats 1000000
namespace N8
open PySem PySem.Spec PyProof.Rows L2 Evl
open SX (S)
def inCls (s : Stmt) : List Stmt := match s with | .ClassDef (body := rows) .. => rows | _ => []
abbrev sClassFileInit : Stmt := (inCls (topS 56)).getD 0 (.Pass ⟨0, 0, 0, 0⟩)
theorem scClassFileInit : FnScope ["self", "name", "parent", "interfaces", "flags", "fields", "methods"] ["self", "name", "parent", "interfaces", "flags", "fields", "methods"] (L2.defScope sClassFileInit) := ⟨rfl, rfl, rfl, by decide +kernel, rfl, by decide +kernel, by decide +kernel⟩

/-- a class as it is handed in -/
structure CD where
  name : List Nat
  parent : Option (List Nat)
  faces : List (List Nat)
  ws : List Str
  fields : List Mem
  methods : List Mem
def parV : Option (List Nat) → V
  | none => .non
  | some l => N8.vs l
structure CDOk (d : CD) : Prop where
  n : isClassL d.name = true ∧ d.name.length ≤ 20000
  p : ∀ l, d.parent = some l → isClassL l = true ∧ l.length ≤ 20000
  i : FacesOk d.faces
  f : Flags d.ws
  fs : ∀ m ∈ d.fields, FieldOk m
  ms : ∀ m ∈ d.methods, MethOk m
/-- what a ClassFile has -/
def Parts (H : Hp) (fs : List (Str × V)) (d : CD) : Prop := ∃ qi qw qf qm yf ym, List.lookup ("name" : Str) fs = some (N8.vs d.name) ∧ List.lookup ("parent" : Str) fs = some (parV d.parent) ∧ List.lookup ("interfaces" : Str) fs = some (.ref qi) ∧ List.lookup ("flags" : Str) fs = some (.ref qw) ∧
  List.lookup ("fields" : Str) fs = some (.ref qf) ∧ List.lookup ("methods" : Str) fs = some (.ref qm) ∧ H qi = some (.tup (d.faces.map N8.vs)) ∧ H qw = some (.tup ((inOrder d.ws).map V.str)) ∧ H qf = some (.tup yf) ∧ Mems (KeptAt H) yf d.fields ∧ H qm = some (.tup ym) ∧ Mems (KeptAt H) ym d.methods
theorem Parts.ex {H H' : Hp} {fs : List (Str × V)} {d : CD} (h : Parts H fs d) (e : Ex H H') : Parts H' fs d := by
  obtain ⟨qi, qw, qf, qm, yf, ym, h1, h2, h3, h4, h5, h6, h7, h8, h9, h10, h11, h12⟩ := h
  exact ⟨qi, qw, qf, qm, yf, ym, h1, h2, h3, h4, h5, h6, e _ _ h7, e _ _ h8, e _ _ h9, h10.imp fun _ _ k => k.ex e, e _ _ h11, h12.imp fun _ _ k => k.ex e⟩
/-- the ClassFile at a -/
def FileAt (K : PySem.W.Frag) (H : Hp) (a : Addr) (d : CD) : Prop := ∃ dx fs, H a = some (.ins (cl K "ClassFile") dx fs) ∧ Parts H fs d
/-- the six arguments -/
def ArgsAt (K : PySem.W.Frag) (H : Hp) (d : CD) (vs : List V) : Prop := ∃ pi pw pf pm xf xm, vs = [N8.vs d.name, parV d.parent, .ref pi, .ref pw, .ref pf, .ref pm] ∧ H pi = some (.lst (d.faces.map N8.vs)) ∧ H pw = some (.lst (d.ws.map V.str)) ∧ H pf = some (.lst xf) ∧ Mems (MemAt H) xf d.fields ∧ xf.length ≤ 1000 ∧
  H pm = some (.lst xm) ∧ Mems (MemAt H) xm d.methods ∧ xm.length ≤ 1000 ∧ ∀ m ∈ d.methods, CodeV K H m.x
def spCFI (K : PySem.W.Frag) : Sp := fun vs H Q _ => ∃ (a dx : Addr) (d : CD) (us : List V), vs = .ref a :: us ∧ H a = some (.ins (cl K "ClassFile") dx []) ∧ ArgsAt K H d us ∧ CDOk d ∧ ∀ H', Exa a H H' → FileAt K H' a d → Q .non H'
/-- Mems under Exa a: a is no list and no tuple -/
theorem MemAt.exa {a : Addr} {H H' : Hp} {v : V} {m : Mem} {C dx : Addr} {fs : List (Str × V)} (ha : H a = some (.ins C dx fs)) (e : Exa a H H') (h : MemAt H v m) : MemAt H' v m := by
  obtain ⟨t, fl, h1, h2, h3⟩ := h
  exact ⟨t, fl, h1, e _ _ (fun z => by rw [z, ha] at h2; cases h2) h2, e _ _ (fun z => by rw [z, ha] at h3; cases h3) h3⟩
theorem KeptAt.exi {a : Addr} {H H' : Hp} {v : V} {m : Mem} {C dx : Addr} {fs : List (Str × V)} (ha : H a = some (.ins C dx fs)) (e : Exa a H H') (h : KeptAt H v m) : KeptAt H' v m := by
  obtain ⟨t, fl, h1, h2, h3⟩ := h
  exact ⟨t, fl, h1, e _ _ (fun z => by rw [z, ha] at h2; cases h2) h2, e _ _ (fun z => by rw [z, ha] at h3; cases h3) h3⟩
theorem CodeV.exa {K : PySem.W.Frag} {a dx : Addr} {H H' : Hp} {x : V} {fs : List (Str × V)} (ha : H a = some (.ins (cl K "ClassFile") dx fs)) (n1 : cl K "ClassFile" ≠ cl K "Code") (n2 : cl K "ClassFile" ≠ cl K "Uncut") (e : Exa a H H') (h : CodeV K H x) : CodeV K H' x := by
  rcases h with h | ⟨b, dx', fs', h1, h2⟩ | ⟨b, dx', fs', h1, h2⟩
  · exact .inl h
  · exact .inr (.inl ⟨b, dx', fs', h1, e _ _ (fun z => by rw [z, ha] at h2; exact n1 (HO.ins.inj (Option.some.inj h2)).1) h2⟩)
  · exact .inr (.inr ⟨b, dx', fs', h1, e _ _ (fun z => by rw [z, ha] at h2; exact n2 (HO.ins.inj (Option.some.inj h2)).1) h2⟩)
section
variable {K : PySem.W.Frag} {σ : L2.St} {H H' : Hp} {te ta tb tl : TE} {t : TT} {r : R2} {v x : V} {D : Ends} {tz tu : TS} {Q : VK}
/-- self.f = e -/
theorem q_fldV {a C dx : Addr} {fs : List (Str × V)} {f : Str} {y : V} {i : Nat} (c : Cls K C) (no : NoAttr K C f) (hi : σ[i]? = some (some (.ref a))) (h : Ev te σ H y) (ha : H a = some (.ins C dx fs)) (hl : fs.length < 1000)
    (k : ∀ H1, Ex H H1 → H1 a = some (.ins C dx fs) → tz D σ (upd H1 a (.ins C dx (putF f y fs)))) : tSeq (sFld K (tVar i) te f) tz D σ H := h H (Ex.refl H) _ fun H1 e => ⟨.ref a, hi, a, C, dx, fs, rfl, e _ _ ha, c, no, hl, k H1 e (e _ _ ha)⟩
theorem rd_fld {f : Str} {i : Nat} (h : te σ H fun y H1 => tVar i σ H1 fun x H2 => ∃ a C dx fs, x = .ref a ∧ H2 a = some (.ins C dx fs) ∧ Cls K C ∧ NoAttr K C f ∧ fs.length < 1000 ∧ tz D σ (upd H2 a (.ins C dx (putF f y fs)))) : tSeq (sFld K (tVar i) te f) tz D σ H := h
theorem rd_fldL {f : Str} {i : Nat} (h : te σ H fun y H1 => tVar i σ H1 fun x H2 => ∃ a C dx fs, x = .ref a ∧ H2 a = some (.ins C dx fs) ∧ Cls K C ∧ NoAttr K C f ∧ fs.length < 1000 ∧ D.nx σ (upd H2 a (.ins C dx (putF f y fs)))) : sFld K (tVar i) te f D σ H := h
end
/-- ClassFile, as its own methods ask -/
structure CFK (K : PySem.W.Frag) : Prop where
  c : Cls K (cl K "ClassFile")
  no : ∀ f ∈ (["name", "parent", "interfaces", "flags", "fields", "methods"] : List Str), NoAttr K (cl K "ClassFile") f
  n1 : cl K "ClassFile" ≠ cl K "Code"
  n2 : cl K "ClassFile" ≠ cl K "Uncut"
theorem exa_upd {a : Addr} {H : Hp} {o : HO} : Exa a H (upd H a o) := fun b u hb h => by rw [upd_ne hb]; exact h
theorem Exa.trans {a : Addr} {H H1 H2 : Hp} (x : Exa a H H1) (y : Exa a H1 H2) : Exa a H H2 := fun b o n h => y b o n (x b o n h)
section
variable {P : Program} {w : World} {K : PySem.W.Frag} {mg : Str → Option Value} {base : Heap}
theorem ok_classFile {f a_is_field a_is_method : Addr} {fd : FuncData} (F : FunD K "__init__" "ClassFile.__init__" (L2.defArgs sClassFileInit) (L2.defBody sClassFileInit) (L2.defScope sClassFileInit) [] [] f fd) (B : Bt mg) (cf : CFK K) (g_is_field : mg "_is_field" = some (.ref a_is_field)) (g_is_method : mg "_is_method" = some (.ref a_is_method)) (hne : a_is_method ≠ a_is_field)
    (c_is_class_name : Cl P w K mg base L2.CX0 3 "is_class_name" ["thing"] (spName K isClassL)) (c_kept_interfaces : Cl P w K mg base L2.CX0 4 "_kept_interfaces" ["interfaces"] spFaces) (c_is_row_of_flags : Cl P w K mg base L2.CX0 2 "_is_row_of_flags" ["thing"] spFlags)
    (c_in_order : Cl P w K mg base L2.CX0 1 "_in_order" ["flags"] spInOrder) (c_kept_members : Cl P w K mg base L2.CX0 9 "_kept_members" ["members", "word", "is_member"] (spKept K a_is_field a_is_method)) :
    FnOk P w K mg base L2.CX0 10 f fd ["self", "name", "parent", "interfaces", "flags", "fields", "methods"] (spCFI K) := by
  refine F.ok scClassFileInit (fun vs H Q E h => ?_) (fun cdv A outer s H vs Q E hr h => ?_)
  · obtain ⟨a, dx, d, us, rfl, _, ⟨pi, pw, pf, pm, xf, xm, rfl, _⟩, _⟩ := h
    rfl
  · obtain ⟨a, dx, d, us, rfl, ha, ⟨pi, pw, pf, pm, xf, xm, rfl, hpi, hpw, hpf, hxf, lf, hpm, hxm, lm, hcv⟩, ok, q⟩ := h
    refine ⟨_, PSs.nox (pss_cons (ps_if (pt_not (pt_val (pe_cl c_is_class_name hr (by decide) (by rfl) (pa_cons (pv 1) pa_nil)))) (pss_one ps_never) pss_nil)
      (pss_cons (ps_if (PW.pt (pw_and (pt_cmpR op_notN (pv 2) pe_non (nomark _)) (pw_and1 (pt_not (pt_val (pe_cl c_is_class_name hr (by decide) (by rfl) (pa_cons (pv 2) pa_nil))))))) (pss_one ps_never) pss_nil)
      (pss_cons (ps_fld (pv 0) (pv 1) rfl)
      (pss_cons (ps_fld (pv 0) (pv 2) rfl)
      (pss_cons (ps_fld (pv 0) (pe_cl c_kept_interfaces hr (by decide) (by rfl) (pa_cons (pv 3) pa_nil)) rfl)
      (pss_cons (ps_if (pt_not (pt_val (pe_cl c_is_row_of_flags hr (by decide) (by rfl) (pa_cons (pv 4) pa_nil)))) (pss_one ps_never) pss_nil)
      (pss_cons (ps_fld (pv 0) (pe_cl c_in_order hr (by decide) (by rfl) (pa_cons (pv 4) pa_nil)) rfl)
      (pss_cons (ps_fld (pv 0) (pe_cl c_kept_members hr (by decide) (by rfl) (pa_cons (pv 5) (pa_cons pe_str (pa_cons (pe_glob (v := .ref a_is_field) (by rfl) g_is_field rfl) pa_nil)))) rfl)
      (pss_one (ps_fld (pv 0) (pe_cl c_kept_members hr (by decide) (by rfl) (pa_cons (pv 6) (pa_cons pe_str (pa_cons (pe_glob (v := .ref a_is_method) (by rfl) g_is_method rfl) pa_nil)))) rfl)))))))))), ?_⟩
    refine q_when (b := false) (et_is (et_not (et_test (ev_is (ev_call (ea_cons (ev_var rfl) ea_nil) fun H1 e Q' q' E' => ⟨_, _, rfl, .inl ⟨d.name, rfl, ok.n.2, rfl⟩, fun H3 e3 => q' H3 e3⟩) (by rw [ok.n.1])))) rfl) (fun e => by cases e) fun _ H1 x1 => ?_
    refine q_when (b := false) ?_ (fun e => by cases e) fun _ H2 x2 => ?_
    · cases hp : d.parent with
      | none => exact et_is (et_and (a := false) (b := false) (et_test fun H2 e Q' q' => ⟨_, rfl, rfl, q' H2 (Ex.refl H2)⟩) fun e => by cases e) rfl
      | some l => exact et_is (et_and (a := true) (b := false) (et_test fun H2 e Q' q' => ⟨_, rfl, rfl, q' H2 (Ex.refl H2)⟩) fun _ => et_is (et_not (et_test (ev_is (ev_call (ea_cons (ev_var rfl) ea_nil) fun H1 e Q' q' E' => ⟨_, _, rfl, .inl ⟨l, rfl, (ok.p l hp).2, rfl⟩, fun H3 e3 => q' H3 e3⟩) (by rw [(ok.p l hp).1])))) rfl) rfl
    have e2 := x1.trans x2
    refine q_fldV cf.c (cf.no _ (by decide)) rfl (ev_var rfl) (e2 _ _ ha) (by decide) fun H3 x3 h3 => ?_
    have A3 : Exa a H (upd H3 a (.ins (cl K "ClassFile") dx (putF "name" (N8.vs d.name) []))) := (Exa.of (e2.trans x3)).trans exa_upd
    refine q_fldV cf.c (cf.no _ (by decide)) rfl (ev_var rfl) upd_same (Nat.le_of_ble_eq_true rfl) fun H4 x4 h4 => ?_
    have A4 : Exa a H (upd H4 a (.ins (cl K "ClassFile") dx (putF "parent" (parV d.parent) (putF "name" (N8.vs d.name) [])))) := (A3.trans (Exa.of x4)).trans exa_upd
    have nl : ∀ {p : Addr} {xs : List V}, H p = some (.lst xs) → p ≠ a := fun {p xs} h z => by rw [z, ha] at h; cases h
    refine rd_fld (rd_call (rd_cons (rd_ev (ev_var rfl) fun H5 x5 => rd_nil ?_)))
    refine ⟨pi, d.faces, rfl, x5 _ _ (A4 _ _ (nl hpi) hpi), ok.i, fun qi H6 hqi x6 h6 => ⟨.ref a, rfl, a, _, dx, _, rfl, (x5.trans x6) _ _ upd_same, cf.c, cf.no _ (by decide), Nat.le_of_ble_eq_true rfl, ?_⟩⟩
    have A6 : Exa a H H6 := A4.trans (Exa.of (x5.trans x6))
    have h6a : H6 a = some (.ins (cl K "ClassFile") dx (putF "parent" (parV d.parent) (putF "name" (N8.vs d.name) []))) := (x5.trans x6) _ _ upd_same
    have nt : ∀ {p : Addr} {xs : List V} {H' : Hp} {C dx' : Addr} {fs : List (Str × V)}, H' p = some (.tup xs) → H' a = some (.ins C dx' fs) → p ≠ a := fun {p xs H' C dx' fs} h k z => by rw [z, k] at h; cases h
    have hqia := nt h6 h6a
    generalize hH7 : upd H6 a (.ins (cl K "ClassFile") dx (putF "interfaces" (.ref qi) (putF "parent" (parV d.parent) (putF "name" (N8.vs d.name) [])))) = H7
    have h7a : H7 a = some (.ins (cl K "ClassFile") dx (putF "interfaces" (.ref qi) (putF "parent" (parV d.parent) (putF "name" (N8.vs d.name) [])))) := by rw [← hH7]; exact upd_same
    have h7 : H7 qi = some (.tup (d.faces.map N8.vs)) := by rw [← hH7, upd_ne hqia]; exact h6
    have A7 : Exa a H H7 := by rw [← hH7]; exact A6.trans exa_upd
    clear hH7
    refine q_when (b := false) (et_is (et_not (et_test (ev_call (ea_cons (ev_var rfl) ea_nil) fun H1 e Q' q' E' => ⟨pw, d.ws, rfl, e _ _ (A7 _ _ (nl hpw) hpw), ok.f, q'⟩))) rfl) (fun e => by cases e) fun _ H8 x8 => ?_
    refine rd_fld (rd_call (rd_cons (rd_ev (ev_var rfl) fun H9 x9 => rd_nil ?_)))
    refine ⟨pw, d.ws, rfl, (x8.trans x9) _ _ (A7 _ _ (nl hpw) hpw), fun qw H10 hqw x10 h10 => ⟨.ref a, rfl, a, _, dx, _, rfl, ((x8.trans x9).trans x10) _ _ h7a, cf.c, cf.no _ (by decide), Nat.le_of_ble_eq_true rfl, ?_⟩⟩
    have h10a := ((x8.trans x9).trans x10) _ _ h7a
    have hqwa := nt h10 h10a
    have h10i := ((x8.trans x9).trans x10) _ _ h7
    have A10 : Exa a H H10 := A7.trans (Exa.of ((x8.trans x9).trans x10))
    generalize hH11 : upd H10 a (.ins (cl K "ClassFile") dx (putF "flags" (.ref qw) (putF "interfaces" (.ref qi) (putF "parent" (parV d.parent) (putF "name" (N8.vs d.name) []))))) = H11
    have h11a : H11 a = some (.ins (cl K "ClassFile") dx (putF "flags" (.ref qw) (putF "interfaces" (.ref qi) (putF "parent" (parV d.parent) (putF "name" (N8.vs d.name) []))))) := by rw [← hH11]; exact upd_same
    have h11i : H11 qi = some (.tup (d.faces.map N8.vs)) := by rw [← hH11, upd_ne hqia]; exact h10i
    have h11w : H11 qw = some (.tup ((inOrder d.ws).map V.str)) := by rw [← hH11, upd_ne hqwa]; exact h10
    have A11 : Exa a H H11 := by rw [← hH11]; exact A10.trans exa_upd
    clear hH11
    refine rd_fld (rd_call (rd_cons (rd_ev (ev_var rfl) fun H12 x12 => rd_cons (rd_ev ev_c fun H13 x13 => rd_cons (rd_ev ev_c fun H14 x14 => rd_nil ?_)))))
    have x14' := (x12.trans x13).trans x14
    have A14 : Exa a H H14 := A11.trans (Exa.of x14')
    refine ⟨pf, a_is_field, "field", xf, d.fields, rfl, A14 _ _ (nl hpf) hpf, lf, hxf.imp fun _ _ k => k.exa ha A14, .inl ⟨rfl, ok.fs⟩, fun qf yf H15 hqf x15 h15 hyf => ⟨.ref a, rfl, a, _, dx, _, rfl, (x14'.trans x15) _ _ h11a, cf.c, cf.no _ (by decide), Nat.le_of_ble_eq_true rfl, ?_⟩⟩
    have h15a := (x14'.trans x15) _ _ h11a
    have h15i := (x14'.trans x15) _ _ h11i
    have h15w := (x14'.trans x15) _ _ h11w
    have A15 : Exa a H H15 := A14.trans (Exa.of x15)
    have hqfa := nt h15 h15a
    generalize hH16 : upd H15 a (.ins (cl K "ClassFile") dx (putF "fields" (.ref qf) (putF "flags" (.ref qw) (putF "interfaces" (.ref qi) (putF "parent" (parV d.parent) (putF "name" (N8.vs d.name) [])))))) = H16
    have B16 : Exa a H15 H16 := by rw [← hH16]; exact exa_upd
    have h16a : H16 a = some (.ins (cl K "ClassFile") dx (putF "fields" (.ref qf) (putF "flags" (.ref qw) (putF "interfaces" (.ref qi) (putF "parent" (parV d.parent) (putF "name" (N8.vs d.name) [])))))) := by rw [← hH16]; exact upd_same
    have h16i := B16 _ _ hqia h15i
    have h16w := B16 _ _ hqwa h15w
    have h16f := B16 _ _ hqfa h15
    have h16y : Mems (KeptAt H16) yf d.fields := hyf.imp fun _ _ k => k.exi h15a B16
    have A16 : Exa a H H16 := A15.trans B16
    clear hH16 B16 h15a h15i h15w h15 hyf
    dsimp only
    refine rd_fldL (rd_call (rd_cons (rd_ev (ev_var rfl) fun H17 x17 => rd_cons (rd_ev ev_c fun H18 x18 => rd_cons (rd_ev ev_c fun H19 x19 => rd_nil ?_)))))
    have x19' := (x17.trans x18).trans x19
    have A19 : Exa a H H19 := A16.trans (Exa.of x19')
    refine ⟨pm, a_is_method, "method", xm, d.methods, rfl, A19 _ _ (nl hpm) hpm, lm, hxm.imp fun _ _ k => k.exa ha A19, .inr ⟨rfl, hne, fun m hm => ⟨ok.ms m hm, (hcv m hm).exa ha cf.n1 cf.n2 A19⟩⟩, fun qm ym H20 hqm x20 h20 hym => ⟨.ref a, rfl, a, _, dx, _, rfl, (x19'.trans x20) _ _ h16a, cf.c, cf.no _ (by decide), Nat.le_of_ble_eq_true rfl, ?_⟩⟩
    have h20a := (x19'.trans x20) _ _ h16a
    have hqma := nt h20 h20a
    have A20 : Exa a H H20 := A19.trans (Exa.of x20)
    refine q _ (A20.trans exa_upd) ⟨dx, _, upd_same, qi, qw, qf, qm, yf, ym, rfl, rfl, rfl, rfl, rfl, rfl, ?_, ?_, ?_, ?_, ?_, ?_⟩
    · exact exa_upd _ _ hqia ((x19'.trans x20) _ _ h16i)
    · exact exa_upd _ _ hqwa ((x19'.trans x20) _ _ h16w)
    · exact exa_upd _ _ hqfa ((x19'.trans x20) _ _ h16f)
    · exact h16y.imp fun _ _ k => (k.ex (x19'.trans x20)).exi h20a exa_upd
    · exact exa_upd _ _ hqma h20
    · exact hym.imp fun _ _ k => k.exi h20a exa_upd
end
end N8

namespace N8
open PySem PySem.Spec PyProof.Rows L2 Evl
open SX (S)
section
variable {K : PySem.W.Frag} {σ : L2.St} {H H' : Hp} {te : TE}
abbrev rInt1 : List V → Hp → VK → Prop := fun xs H Q => (∃ i, xs = [.int i] ∧ Q (.int i) H) ∨ ∃ k, xs = [.bl k] ∧ Q (.int (if k then 1 else 0)) H
theorem ev_intB {k : Bool} (h : Ev te σ H (.bl k)) : Ev (tCB rInt1 (tCons te tNil)) σ H (.int (if k then 1 else 0)) := fun H1 e Q q => h H1 e _ fun H2 e2 => .inr ⟨k, rfl, q H2 e2⟩
theorem ev_intI {i : Int} (h : Ev te σ H (.int i)) : Ev (tCB rInt1 (tCons te tNil)) σ H (.int i) := fun H1 e Q q => h H1 e _ fun H2 e2 => .inl ⟨i, rfl, q H2 e2⟩
end
/-! ### the well -/
theorem Exa.refl (a : Addr) (H : Hp) : Exa a H H := fun _ _ _ h => h
theorem Exa.upd {a : Addr} {H : Hp} {o : HO} : Exa a H (upd H a o) := fun b o n h => by rw [upd_ne n]; exact h
/-- a was new: then all is as it was -/
theorem Exa.ex {a : Addr} {H H1 H2 : Hp} (h : H a = none) (e : Ex H H1) (x : Exa a H1 H2) : Ex H H2 := fun b o hb => x b o (fun q => by rw [q, h] at hb; cases hb) (e b o hb)
/-- the well at a, with at most n draws counted -/
def WellAt (H : Hp) (a : Addr) (n : Nat) : Prop := ∃ x c : Int, H a = some (.lst [.int x, .int c]) ∧ 0 ≤ c ∧ c ≤ n
theorem WellAt.ex {H H' : Hp} {a : Addr} {n : Nat} (e : Ex H H') (h : WellAt H a n) : WellAt H' a n := by
  obtain ⟨x, c, h1, h2⟩ := h
  exact ⟨x, c, e _ _ h1, h2⟩
theorem WellAt.le {H : Hp} {a : Addr} {n m : Nat} (h : WellAt H a n) (e : n ≤ m) : WellAt H a m := by
  obtain ⟨x, c, h1, h2, h3⟩ := h
  exact ⟨x, c, h1, h2, by omega⟩
def spWell : Sp := fun vs H Q _ => ∃ i : Int, vs = [.int i] ∧ ∀ a H', H a = none → Ex H H' → WellAt H' a 0 → Q (.ref a) H'
def spDraw : Sp := fun vs H Q _ => ∃ (a : Addr) (m : Int) (n : Nat), vs = [.ref a, .int m] ∧ 0 < m ∧ m < 1000000 ∧ WellAt H a n ∧ n ≤ 1000000 ∧ ∀ d H', 0 ≤ d → d < m → Exa a H H' → WellAt H' a (n + 1) → Q (.int d) H'
section
variable {K : PySem.W.Frag} {σ : L2.St} {H H' : Hp} {ta tb tc te : TE} {tl th : TO} {t u : TT} {x y z v : V} {D : Ends}
theorem rv_mod {i j : Int} (h : 0 < j) : RV (rI (fun _ j => 0 < j) fun i j => .int (i % j)) (.int i) (.int j) H (.int (i % j)) := rv_I h
theorem rv_mulS {i j : Int} (h1 : i.natAbs < 2 ^ 64) (h2 : j.natAbs < 2 ^ 64) : RV (rI CMulW fun i j => .int (i * j)) (.int i) (.int j) H (.int (i * j)) := rv_I (wide_mul h1 h2 (by decide) (by decide) (by decide))
theorem rv_fdivS {i j : Int} (h0 : 0 < j) (h2 : j.natAbs < 2 ^ 64) : RV (rI CDivW fun i j => .int (i / j)) (.int i) (.int j) H (.int (i / j)) := rv_I (wide_div h0 h2 (by decide) (by decide))
theorem dr_draw {a : Addr} {m : Int} {n : Nat} {Q : VK} (ha : Ev ta σ H (.ref a)) (hm : Ev tb σ H (.int m)) (h0 : 0 < m) (h1 : m < 1000000) (hw : WellAt H a n) (hn : n ≤ 1000000)
    (k : ∀ d H', 0 ≤ d → d < m → Exa a H H' → WellAt H' a (n + 1) → Q (.int d) H') : tCall spDraw [] L2.E0 (tCons ta (tCons tb tNil)) σ H Q :=
  ea_cons ha (ea_cons hm ea_nil) H (Ex.refl H) _ fun H1 x1 => ⟨a, m, n, rfl, h0, h1, hw.ex x1, hn, fun d H' a1 a2 a3 a4 => k d H' a1 a2 ((Exa.of x1).trans a3) a4⟩
end
section
variable {P : Program} {w : World} {K : PySem.W.Frag} {mg : Str → Option Value} {base : Heap} {C : Addr}
theorem ok_lawWell {f : Addr} {fd : FuncData} (F : FnP K "_law_well" sLawWell f fd) (B : Bt mg) : FnOk P w K mg base L2.CX0 1 f fd ["cell"] spWell := by
  refine F.ok scLawWell (fun vs H Q E h => ?_) (fun cdv A outer s H vs Q E hr h => ?_)
  · obtain ⟨x, rfl, _⟩ := h
    rfl
  · obtain ⟨i, rfl, q⟩ := h
    refine ⟨_, PSs.nox (pss_one (ps_ret (pe_lst (pa_cons (pe_callTy call_int1 (by rfl) B.int (by decide +kernel) (pa_cons (pv 0) pa_nil)) (pa_cons pe_int pa_nil))))), ?_⟩
    exact s_retL (el_lst (ea_cons (ev_intI (ev_var rfl)) (ea_cons ev_c ea_nil)) (by show 2 ≤ 100000; decide)) fun p H1 hp x1 h1 => q p H1 hp x1 ⟨i, 0, h1, by omega, by omega⟩
theorem ok_lawDraw {f : Addr} {fd : FuncData} (F : FnP K "_law_draw" sLawDraw f fd) (B : Bt mg) : FnOk P w K mg base L2.CX0 1 f fd ["well", "many"] spDraw := by
  refine F.ok scLawDraw (fun vs H Q E h => ?_) (fun cdv A outer s H vs Q E hr h => ?_)
  · obtain ⟨a, m, n, rfl, _⟩ := h
    rfl
  · obtain ⟨a, m, n, rfl, m0, m1, ⟨x, c, hx, c0, c1⟩, hn, q⟩ := h
    refine ⟨_, PSs.nox (pss_cons (ps_if (pt_cmpR op_ge (pe_ix ix_list (pv 0) pe_int (fun _ _ => rfl)) (pe_op op_pow pe_int pe_int) (nomark _)) (pss_cons (ps_set (i := 2) scLawDraw.nd rfl (.inl rfl) (pe_op op_mod (pe_callTy call_int1 (by rfl) B.int (by decide +kernel) (pa_cons (pe_ix ix_list (pv 0) pe_int (fun _ _ => rfl)) pa_nil)) (pv 1)))
      (pss_cons (ps_asg (pe_op op_fdivW (pe_ix ix_list (pv 0) pe_int (fun _ _ => rfl)) (pv 1)) (pg_sub (pv 0) pe_int set_list))
      (pss_one (ps_ret (pv 2))))) pss_nil)
      (pss_cons (ps_asg (pe_op op_add (pe_ix ix_list (pv 0) pe_int (fun _ _ => rfl)) pe_int) (pg_sub (pv 0) pe_int set_list))
      (pss_cons (ps_set (i := 3) scLawDraw.nd rfl (.inl rfl) (pe_op op_mod (pe_callTy call_int1 (by rfl) B.int (by decide +kernel) (pa_cons (pe_op op_mulW (pe_callTy call_int1 (by rfl) B.int (by decide +kernel) (pa_cons (pe_op op_add (pe_op op_add (pe_op op_mod (pe_callTy call_int1 (by rfl) B.int (by decide +kernel) (pa_cons (pe_ix ix_list (pv 0) pe_int (fun _ _ => rfl)) pa_nil)) pe_int) (pe_op op_mulW pe_int (pe_ix ix_list (pv 0) pe_int (fun _ _ => rfl)))) pe_int) pa_nil)) pe_int) pa_nil)) pe_int))
      (pss_cons (ps_set (i := 4) scLawDraw.nd rfl (.inl rfl) (pe_op op_mod (pe_callTy call_int1 (by rfl) B.int (by decide +kernel) (pa_cons (pe_op op_fdivW (pe_ix ix_list (pv 0) pe_int (fun _ _ => rfl)) pe_int) pa_nil)) pe_int))
      (pss_cons (ps_set (i := 3) scLawDraw.nd rfl (.inl rfl) (pe_op op_mod (pe_callTy call_int1 (by rfl) B.int (by decide +kernel) (pa_cons (pe_op op_mulW (pv 3) (pe_op op_add (pe_op op_add (pe_op op_fdivW (pv 3) pe_int) pe_int) (pv 4))) pa_nil)) pe_int))
      (pss_one (ps_ret (pe_op op_mod (pe_callTy call_int1 (by rfl) B.int (by decide +kernel) (pa_cons (pe_op op_fdivW (pe_op op_mod (pe_callTy call_int1 (by rfl) B.int (by decide +kernel) (pa_cons (pe_op op_mulW (pv 3) (pe_op op_add (pe_op op_fdivW (pv 3) pe_int) pe_int)) pa_nil)) pe_int) pe_int) pa_nil)) (pv 1))))))))), ?_⟩
    have hix : ∀ (i : Int) (v : V) (σ' : L2.St) (H5 : Hp) (xs : List V), σ'[0]? = some (some (.ref a)) → H5 a = some (.lst xs) → atI xs i = some v → Ev (tOp (rIxL K) (tVar 0) (tC (.int i))) σ' H5 v :=
      fun i v σ' H5 xs h0 h1 h2 => ev_op (ev_var h0) ev_c (rv_ixL (sq_of h1) h2)
    refine q_when (b := decide ((10 : Int) ^ 18 ≤ x)) (et_test (ev_op (hix 0 (.int x) _ _ _ rfl hx rfl) (ev_op ev_c ev_c (rv_I ⟨by decide, by decide, by decide⟩)) (rv_is rv_I0 ?_))) (fun e H1 x1 => ?_) (fun e H1 x1 => ?_)
    · rfl
    · refine q_asg (ev_op (ev_intI (hix 0 (.int x) _ _ _ rfl (x1 _ _ hx) rfl)) (ev_var rfl) (rv_mod m0)) fun H2 x2 => ?_
      refine q_setL (l := a) (xs := [.int x, .int c]) (j := 0) (x2 _ _ (x1 _ _ hx)) (ev_op (hix 0 (.int x) _ _ _ rfl (x2 _ _ (x1 _ _ hx)) rfl) (ev_var rfl) (rv_fdivS m0 (by omega))) (ev_var rfl) ev_c (by show 0 < 2; decide) fun H3 x3 => ?_
      refine s_ret (ev_var rfl) fun H4 x4 => q _ H4 (Int.emod_nonneg _ (by omega)) (Int.emod_lt_of_pos _ m0) ?_ ⟨x / m, c, x4 _ _ upd_same, c0, by omega⟩
      exact (Exa.of ((x1.trans x2).trans x3)).trans (Exa.upd.trans (Exa.of x4))
    · refine q_setL (l := a) (xs := [.int x, .int c]) (j := 1) (x1 _ _ hx) (ev_op (hix 1 (.int c) _ _ _ rfl (x1 _ _ hx) rfl) ev_c rv_I0) (ev_var rfl) ev_c (by show 1 < 2; decide) fun H2 x2 => ?_
      have h2 : (upd H2 a (.lst ([V.int x, V.int c].set 1 (V.int (c + 1))))) a = some (.lst [.int x, .int (c + 1)]) := upd_same
      generalize hH : upd H2 a (.lst ([V.int x, V.int c].set 1 (V.int (c + 1)))) = H3 at h2
      have xa : Exa a H H3 := by
        rw [← hH]
        exact (Exa.of (x1.trans x2)).trans Exa.upd
      clear hH
      have e1 := Int.emod_nonneg x (show (2147483629 : Int) ≠ 0 by decide)
      have e2 := Int.emod_lt_of_pos x (show (0 : Int) < 2147483629 by decide)
      refine q_asg (v := .int (((x % 2147483629 + 60013 * (c + 1) + 11) * 48271) % 2147483647)) (ev_op (ev_intI (ev_op (ev_intI (ev_op (ev_op (ev_op (ev_intI (hix 0 (.int x) _ _ _ rfl h2 rfl)) ev_c (rv_mod (by decide))) (ev_op ev_c (hix 1 (.int (c + 1)) _ _ _ rfl h2 rfl) (rv_mulS (by decide) (by omega))) rv_I0) ev_c rv_I0)) ev_c (rv_mulS (by omega) (by decide)))) ev_c (rv_mod (by decide))) fun H4 x4 => ?_
      have e3 := Int.emod_nonneg ((x % 2147483629 + 60013 * (c + 1) + 11) * 48271) (show (2147483647 : Int) ≠ 0 by decide)
      have e4 := Int.emod_lt_of_pos ((x % 2147483629 + 60013 * (c + 1) + 11) * 48271) (show (0 : Int) < 2147483647 by decide)
      generalize ((x % 2147483629 + 60013 * (c + 1) + 11) * 48271) % 2147483647 = nr at e3 e4 ⊢
      refine q_asg (v := .int ((x / 2147483629) % 9973)) (ev_op (ev_intI (ev_op (hix 0 (.int x) _ _ _ rfl (x4 _ _ h2) rfl) ev_c (rv_fdivS (by decide) (by decide)))) ev_c (rv_mod (by decide))) fun H5 x5 => ?_
      have e5 := Int.emod_nonneg (x / 2147483629) (show (9973 : Int) ≠ 0 by decide)
      have e6 := Int.emod_lt_of_pos (x / 2147483629) (show (0 : Int) < 9973 by decide)
      generalize (x / 2147483629) % 9973 = mo at e5 e6 ⊢
      refine q_asg (v := .int ((nr * (nr / 1013 + 40692 + mo)) % 2147483587)) (ev_op (ev_intI (ev_op (ev_var rfl) (ev_op (ev_op (ev_op (ev_var rfl) ev_c (rv_fdivS (by decide) (by decide))) ev_c rv_I0) (ev_var rfl) rv_I0) (rv_mulS (by omega) (by omega)))) ev_c (rv_mod (by decide))) fun H6 x6 => ?_
      have e7 := Int.emod_nonneg (nr * (nr / 1013 + 40692 + mo)) (show (2147483587 : Int) ≠ 0 by decide)
      have e8 := Int.emod_lt_of_pos (nr * (nr / 1013 + 40692 + mo)) (show (0 : Int) < 2147483587 by decide)
      generalize (nr * (nr / 1013 + 40692 + mo)) % 2147483587 = n2 at e7 e8 ⊢
      refine s_ret (v := .int (((n2 * (n2 / 2003 + 69621)) % 2147483563 / 5) % m)) (ev_op (ev_intI (ev_op (ev_op (ev_intI (ev_op (ev_var rfl) (ev_op (ev_op (ev_var rfl) ev_c (rv_fdivS (by decide) (by decide))) ev_c rv_I0) (rv_mulS (by omega) (by omega)))) ev_c (rv_mod (by decide))) ev_c (rv_fdivS (by decide) (by decide)))) (ev_var rfl) (rv_mod m0)) fun H7 x7 => ?_
      exact q _ H7 (Int.emod_nonneg _ (by omega)) (Int.emod_lt_of_pos _ m0) (xa.trans (Exa.of (((x4.trans x5).trans x6).trans x7))) ⟨x, c + 1, x7 _ _ (x6 _ _ (x5 _ _ (x4 _ _ h2))), by omega, by omega⟩
end
end N8

set_option maxHeartbeats 1000000
namespace N8
open PySem PySem.Spec PyProof.Rows L2 Evl
open SX (S)
theorem pe_cl0 {X : Cx} {k j : Nat} {x : Str} {sp : Sp} {p pos : Pos} (c : Cl X.prog X.w X.K X.mg X.base L2.CX0 k x [] sp) (hr : Room j X.A) (hk : k ≤ j) (hg : Gl X x) (hdb : (x == ("__debug__" : Str)) = false := by decide) :
    PE X (.Call (.Name x p) [] [] pos) (tCall sp [] L2.E0 tNil) := by
  obtain ⟨f, fd, F, hm, hkp, hb⟩ := c.ex
  exact pe_call0 F (hr.mono hk) hg hm hkp hb .nil L2.pass0 hdb
def spOne : Sp := fun vs H Q _ => ∃ (a p : Addr) (xs : List V) (n : Nat), vs = [.ref a, .ref p] ∧ H p = some (.lst xs) ∧ p ≠ a ∧ xs ≠ [] ∧ xs.length ≤ 1000 ∧ WellAt H a n ∧ n ≤ 1000000 ∧ ∀ v H', v ∈ xs → Exa a H H' → WellAt H' a (n + 1) → Q v H'
theorem atI_some {α : Type} {xs : List α} {d : Int} (h0 : 0 ≤ d) (h1 : d < xs.length) : ∃ v, atI xs d = some v ∧ v ∈ xs := by
  have hi : d.toNat < xs.length := by omega
  refine ⟨xs[d.toNat], ?_, List.getElem_mem _⟩
  have := atI_nat (List.getElem?_eq_getElem hi)
  rwa [show ((d.toNat : Nat) : Int) = d by omega] at this
section
variable {P : Program} {w : World} {K : PySem.W.Frag} {mg : Str → Option Value} {base : Heap} {C : Addr}
theorem ok_lawOne {f : Addr} {fd : FuncData} (F : FnP K "_law_one" sLawOne f fd) (B : Bt mg) (c_law_draw : Cl P w K mg base L2.CX0 1 "_law_draw" ["well", "many"] spDraw) : FnOk P w K mg base L2.CX0 2 f fd ["well", "some"] spOne := by
  refine F.ok scLawOne (fun vs H Q E h => ?_) (fun cdv A outer s H vs Q E hr h => ?_)
  · obtain ⟨a, p, xs, n, rfl, _⟩ := h
    rfl
  · obtain ⟨a, p, xs, n, rfl, hp, hpa, hne, hx, hw, hn, q⟩ := h
    refine ⟨_, PSs.nox (pss_one (ps_ret (pe_ix ix_list (pv 1) (pe_cl c_law_draw hr (by decide) (by rfl) (pa_cons (pv 0) (pa_cons (pe_callB call_len_seq (by rfl) B.len PySem.boot_len (pa_cons (pv 1) pa_nil)) pa_nil))) (fun _ _ => rfl)))), ?_⟩
    refine ⟨_, rfl, ?_⟩
    refine dr_draw (a := a) (m := (xs.length : Int)) (n := n) (ev_var rfl) (ev_len (ev_var rfl) (sq_of hp)) ?_ (by omega) hw hn fun d H' h0 h1 hxa hw' => ?_
    · cases xs with
      | nil => exact absurd rfl hne
      | cons x r => simp only [List.length_cons]; omega
    · obtain ⟨v, hv, hm⟩ := atI_some h0 h1
      exact ⟨p, xs, d, v, rfl, rfl, sq_of (hxa _ _ hpa hp), hv, q v H' hm hxa hw'⟩
end
/-- some of the words, each at most once -/
def spWords : Sp := fun vs H Q _ => ∃ (a p : Addr) (ws : List Str) (n : Nat), vs = [.ref a, .ref p] ∧ H p = some (.lst (ws.map V.str)) ∧ p ≠ a ∧ ws.Nodup ∧ ws.length ≤ 20 ∧ WellAt H a n ∧ n ≤ 900000 ∧
  ∀ (q : Addr) (rs : List Str) (H' : Hp), H q = none → Exa a H H' → WellAt H' a (n + 22) → H' q = some (.lst (rs.map V.str)) → q ≠ a → (∀ x ∈ rs, x ∈ ws) → rs.Nodup → rs.length ≤ ws.length → Q (.ref q) H'
def spAllWords : Sp := fun vs H Q _ => vs = [] ∧ ∀ q H', H q = none → Ex H H' → H' q = some (.lst (flags9.map V.str)) → Q (.ref q) H'
theorem well_ne {a p : Addr} {n : Nat} {H : Hp} (hw : WellAt H a n) (h : H p = none) : p ≠ a := by
  obtain ⟨y, c, h1, _⟩ := hw
  exact fun e => by rw [e, h1] at h; cases h
theorem erase_perm : ∀ {l : List Str} {k : Nat} {y : Str}, l[k]? = some y → (y :: l.eraseIdx k).Perm l
  | [], _, _, h => by simp at h
  | x :: r, 0, y, h => by
    obtain rfl : x = y := by simpa using h
    exact List.Perm.refl _
  | x :: r, k + 1, y, h => by
    have ih := erase_perm (l := r) (k := k) (y := y) (by simpa using h)
    exact (List.Perm.swap x y _).trans (ih.cons x)
theorem map_erase (ws : List Str) (k : Nat) : (ws.map V.str).eraseIdx k = (ws.eraseIdx k).map V.str := by
  induction ws generalizing k with
  | nil => rfl
  | cons x r ih =>
    cases k with
    | zero => rfl
    | succ k => simp only [List.map_cons, List.eraseIdx_cons_succ, ih]
section
variable {K : PySem.W.Frag} {σ : L2.St} {H H' : Hp} {te ta : TE} {t : TA} {r : R2} {v x : V} {D : Ends} {tz tu : TS} {Q : VK}
theorem rd_seq (h : tu { D with nx := tz D } σ H) : tSeq tu tz D σ H := h
theorem rd_lst (h : t σ H fun xs H1 => xs.length ≤ sizeLine ∧ ∀ p, H1 p = none → Q (.ref p) (upd H1 p (.lst xs))) : tLst t σ H Q := h
theorem rd_op (h : ta σ H fun x H1 => te σ H1 fun y H2 => r x y H2 Q) : tOp r ta te σ H Q := h
theorem rd_c (h : Q v H) : tC v σ H Q := h
end
section
variable {P : Program} {w : World} {K : PySem.W.Frag} {mg : Str → Option Value} {base : Heap} {C : Addr}
theorem ok_lawWords {f : Addr} {fd : FuncData} (F : FnP K "_law_words" sLawWords f fd) (B : Bt mg) (c_law_draw : Cl P w K mg base L2.CX0 1 "_law_draw" ["well", "many"] spDraw) : FnOk P w K mg base L2.CX0 2 f fd ["well", "words"] spWords := by
  refine F.ok scLawWords (fun vs H Q E h => ?_) (fun cdv A outer s H vs Q E hr h => ?_)
  · obtain ⟨a, p, ws, n, rfl, _⟩ := h
    rfl
  · obtain ⟨a, p, ws, n, rfl, hp, hpa, hd, hl, hw, hn, q⟩ := h
    refine ⟨_, PSs.nox (pss_cons (ps_par (i := 2) (j := 3) rfl scLawWords.nd rfl rfl (by decide) rfl rfl (pa_cons (pe_callTy call_list_of (by rfl) B.list (by decide +kernel) (pa_cons (pv 1) pa_nil)) (pa_cons (pe_lst pa_nil) pa_nil)) rfl)
      (pss_cons (ps_for PassesOwn.never rfl (pi_range1 (by rfl) B.range (pa_cons (pe_cl c_law_draw hr (by decide) (by rfl) (pa_cons (pv 0) (pa_cons (pe_op op_add (pe_callB call_len_seq (by rfl) B.len PySem.boot_len (pa_cons (pv 2) pa_nil)) pe_int) pa_nil))) pa_nil)) (pg_name (i := 4) scLawWords.nd rfl (.inl rfl)) (pss_one (ps_expr (pe_bm PySem.F.plainAttrs_list PySem.F.slot_list_append PySem.F.type_list_append mt_append (pv 3) (pa_cons (pe_bm PySem.F.plainAttrs_list PySem.F.slot_list_pop PySem.F.type_list_pop mt_popAt (pv 2) (pa_cons (pe_cl c_law_draw hr (by decide) (by rfl) (pa_cons (pv 0) (pa_cons (pe_callB call_len_seq (by rfl) B.len PySem.boot_len (pa_cons (pv 2) pa_nil)) pa_nil))) pa_nil)) pa_nil)))))
      (pss_one (ps_ret (pv 3))))), ?_⟩
    refine rd_seq (show tPar _ _ _ _ _ _ from rd_cons (rd_cb (rd_cons (rd_ev (ev_var rfl) fun H1 x1 => rd_nil ⟨p, _, rfl, .inl (sq_of (x1 _ _ hp)), fun pL hpL => rd_cons (rd_lst (rd_nil ⟨by show 0 ≤ sizeLine; decide, fun pR hpR => rd_nil ⟨.ref pL, .ref pR, rfl, ?_⟩⟩))⟩))))
    have y1 : Ex H1 (upd (upd H1 pL (.lst (ws.map V.str))) pR (.lst [])) := (Ex.new hpL).trans (Ex.new hpR)
    have hL : (upd (upd H1 pL (.lst (ws.map V.str))) pR (.lst [])) pL = some (.lst (ws.map V.str)) := (Ex.new hpR) _ _ upd_same
    have hR : (upd (upd H1 pL (.lst (ws.map V.str))) pR (.lst [])) pR = some (.lst (([] : List Str).map V.str)) := upd_same
    have hLR : pL ≠ pR := fun z => by rw [← z, upd_same] at hpR; cases hpR
    have nL : H pL = none := fresh_back x1 hpL
    have nR : H pR = none := fresh_back (x1.trans (Ex.new hpL)) hpR
    have hLa : pL ≠ a := well_ne hw nL
    have hRa : pR ≠ a := well_ne hw nR
    have w1 := (hw.ex x1).ex y1
    have e1 := x1.trans y1
    generalize upd (upd H1 pL (.lst (ws.map V.str))) pR (.lst []) = H2 at y1 hL hR w1 e1 ⊢
    refine rd_seq (show tCall _ _ _ _ _ _ _ from dr_draw (a := a) (m := (ws.length : Int) + 1) (n := n) (ev_var rfl) (ev_op (ev_is (ev_lenLst (ev_var rfl) hL) (by rw [List.length_map])) ev_c rv_I0) (by omega) (by omega) w1 (by omega) fun N H3 n0 n1 xa3 w3 => ⟨N, rfl, by omega, by omega, ?_⟩)
    have h3L := xa3 _ _ hLa hL
    have h3R := xa3 _ _ hRa hR
    have A3 : Exa a H H3 := (Exa.of e1).trans xa3
    refine for_range (lo := 0) (n := N.toNat) (fun i σ' H' => ∃ (Ls Rs : List Str) (v4 : Option V), σ' = [some (.ref a), some (.ref p), some (.ref pL), some (.ref pR), v4] ∧ H' pL = some (.lst (Ls.map V.str)) ∧ H' pR = some (.lst (Rs.map V.str)) ∧ (∀ x ∈ Rs ++ Ls, x ∈ ws) ∧ (Rs ++ Ls).Nodup ∧ Rs.length = i ∧ Rs.length + Ls.length = ws.length ∧
      (∀ b o, b ≠ a → b ≠ pL → b ≠ pR → H3 b = some o → H' b = some o) ∧ WellAt H' a (n + 1 + i)) ⟨ws, [], none, rfl, h3L, h3R, fun x hx => by simpa using hx, by simpa using hd, rfl, by simp, fun b o _ _ _ h => h, by simpa using w3⟩ (fun i σ' H' hi hP => ?_) (fun σ' H' hP => ?_)
    · obtain ⟨Ls, Rs, v4, rfl, g1, g2, g3, g4, g5, g6, g7, g8⟩ := hP
      have hLs : 1 ≤ Ls.length := by omega
      refine ⟨.ref pR, rfl, .inl ⟨rfl, _, sq_of g2⟩, ?_⟩
      refine rd_cons (show tBM _ _ _ _ _ _ _ _ from ⟨.ref pL, rfl, .inl ⟨rfl, _, sq_of g1⟩, ?_⟩)
      refine rd_cons (dr_draw (a := a) (m := (Ls.length : Int)) (n := n + 1 + i) (ev_var rfl) (ev_is (ev_lenLst (ev_var rfl) g1) (by rw [List.length_map])) (by omega) (by omega) g8 (by omega) fun d H5 d0 d1 xa5 w5 => rd_nil ?_)
      obtain ⟨k, rfl⟩ : ∃ k : Nat, d = (k : Int) := ⟨d.toNat, by omega⟩
      have hk : k < Ls.length := by omega
      have hy : Ls[k]? = some Ls[k] := List.getElem?_eq_getElem hk
      have p5L := xa5 _ _ hLa g1
      have p5R := xa5 _ _ hRa g2
      refine ⟨pL, _, (k : Int), k, .str Ls[k], rfl, rfl, p5L, by omega, by omega, by rw [List.length_map, seqIndex_of (by omega) (by omega)]; rfl, by rw [List.getElem?_map, hy]; rfl, rd_nil ⟨pR, Rs.map V.str, .str Ls[k], rfl, rfl, by rw [upd_ne (Ne.symm hLR)]; exact p5R, by rw [List.length_map]; exact sz_lt (by omega), ?_⟩⟩
      have pm : (Rs ++ [Ls[k]] ++ Ls.eraseIdx k).Perm (Rs ++ Ls) := by
        rw [List.append_assoc]
        exact List.Perm.append_left Rs (erase_perm hy)
      have le : (Ls.eraseIdx k).length = Ls.length - 1 := List.length_eraseIdx_of_lt hk
      refine ⟨Ls.eraseIdx k, Rs ++ [Ls[k]], _, rfl, ?_, ?_, fun x hx => g3 x (pm.mem_iff.mp hx), pm.nodup_iff.mpr g4, by rw [List.length_append, g5]; rfl, by rw [List.length_append, le]; simp; omega, fun b o b1 b2 b3 hb => ?_, ?_⟩
      · rw [upd_ne hLR, upd_same, map_erase]
      · rw [upd_same, List.map_append]; rfl
      · rw [upd_ne b3, upd_ne b2]
        exact xa5 _ _ b1 (g7 b o b1 b2 b3 hb)
      · obtain ⟨y, c, k1, k2, k3⟩ := w5
        exact ⟨y, c, by rw [upd_ne (Ne.symm hRa), upd_ne (Ne.symm hLa)]; exact k1, k2, by omega⟩
    · obtain ⟨Ls, Rs, v4, rfl, g1, g2, g3, g4, g5, g6, g7, g8⟩ := hP
      refine s_ret (ev_var rfl) fun H5 x5 => q pR Rs H5 nR (fun b o hb ho => ?_) ((g8.ex x5).le (by omega)) (x5 _ _ g2) hRa (fun x hx => g3 x (List.mem_append_left _ hx)) (List.nodup_append.mp g4).1 (by omega)
      exact x5 _ _ (g7 b o hb (ne_of_none ho nL) (ne_of_none ho nR) (A3 b o hb ho))
end
end N8

set_option maxHeartbeats 1000000
namespace N8
open PySem PySem.Spec PyProof.Rows L2 Evl
open SX (S)
abbrev sLawFlags : Stmt := topS 102
theorem scLawFlags : FnScope ["well", "good", "way", "flags", "word"] ["well", "good"] (L2.defScope sLawFlags) := ⟨rfl, rfl, rfl, by decide +kernel, rfl, by decide +kernel, by decide +kernel⟩

/-- a list of lists of flags, apart from the well -/
def Goods (H : Hp) (a : Addr) (xs : List V) : Prop := ∀ x ∈ xs, ∃ (g : Addr) (ws : List Str), x = .ref g ∧ g ≠ a ∧ H g = some (.lst (ws.map V.str)) ∧ (∀ y ∈ ws, y ∈ flags9) ∧ ws.Nodup ∧ ws.length ≤ 10
theorem Goods.exa {H H' : Hp} {a : Addr} {xs : List V} (h : Goods H a xs) (e : Exa a H H') : Goods H' a xs := fun x hx => by
  obtain ⟨g, ws, h1, h2, h3, h4⟩ := h x hx
  exact ⟨g, ws, h1, h2, e _ _ h2 h3, h4⟩
def spLFlags : Sp := fun vs H Q _ => ∃ (a p : Addr) (xs : List V) (n : Nat), vs = [.ref a, .ref p] ∧ H p = some (.lst xs) ∧ p ≠ a ∧ xs ≠ [] ∧ xs.length ≤ 1000 ∧ Goods H a xs ∧ WellAt H a n ∧ n ≤ 800000 ∧
  ∀ (q : Addr) (rs : List Str) (H' : Hp), H q = none → Exa a H H' → WellAt H' a (n + 30) → H' q = some (.lst (rs.map V.str)) → q ≠ a → Flags rs → Q (.ref q) H'
theorem fresh_backA {a q : Addr} {H H' : Hp} (e : Exa a H H') (hq : q ≠ a) (h : H' q = none) : H q = none := by
  cases z : H q with
  | none => rfl
  | some o => rw [e q o hq z] at h; cases h
theorem flags9_nodup : flags9.Nodup := by decide +kernel
section
variable {K : PySem.W.Frag} {σ : L2.St} {H H' : Hp} {te : TE} {v x : V} {D : Ends} {tz tu : TS} {Q : VK}
theorem q_asgAny2 {i : Nat} (h : te σ H fun v H1 => D.nx (σ.set i (some v)) H1) : tAsg te (gName i) D σ H := h
end
section
variable {P : Program} {w : World} {K : PySem.W.Frag} {mg : Str → Option Value} {base : Heap} {C : Addr}
theorem ok_allWords {f : Addr} {fd : FuncData} (F : FnP K "_law_all_words" sLawAllWords f fd) (B : Bt mg) : FnOk P w K mg base L2.CX0 1 f fd [] spAllWords := by
  refine F.ok scLawAllWords (fun vs H Q E h => ?_) (fun cdv A outer s H vs Q E hr h => ?_)
  · obtain ⟨rfl, _⟩ := h
    rfl
  · obtain ⟨rfl, q⟩ := h
    refine ⟨_, PSs.nox (pss_cons (ps_set (i := 0) scLawAllWords.nd rfl (.inl rfl) pe_str)
      (pss_one (ps_ret (pe_split (pv 0) pe_str)))), ?_⟩
    refine q_asg ev_c fun H1 x1 => ?_
    have e : (TL.spl [32] 0 [] (Str.ofString "public private protected static final synchronized abstract interface native").cps.toList).map (fun p => V.str (S p)) = flags9.map V.str := by decide +kernel
    refine s_retL (xs := flags9.map V.str) ?_ fun p H2 hp x2 h2 => q p H2 (fresh_back x1 hp) (x1.trans x2) h2
    rw [← e]
    exact el_split (c := 32) (by decide +kernel) (by decide) (ev_is (ev_var rfl) (by rw [SX.S_tl])) (by decide +kernel)
theorem ok_lawFlags {f : Addr} {fd : FuncData} (F : FnP K "_law_flags" sLawFlags f fd) (B : Bt mg) (c_law_draw : Cl P w K mg base L2.CX0 1 "_law_draw" ["well", "many"] spDraw) (c_law_one : Cl P w K mg base L2.CX0 2 "_law_one" ["well", "some"] spOne)
    (c_law_words : Cl P w K mg base L2.CX0 2 "_law_words" ["well", "words"] spWords) (c_law_all_words : Cl P w K mg base L2.CX0 1 "_law_all_words" [] spAllWords) : FnOk P w K mg base L2.CX0 3 f fd ["well", "good"] spLFlags := by
  refine F.ok scLawFlags (fun vs H Q E h => ?_) (fun cdv A outer s H vs Q E hr h => ?_)
  · obtain ⟨a, p, xs, n, rfl, _⟩ := h
    rfl
  · obtain ⟨a, p, xs, n, rfl, hp, hpa, hne, hl, hg, hw, hn, q⟩ := h
    refine ⟨_, PSs.nox (pss_cons (ps_set (i := 2) scLawFlags.nd rfl (.inl rfl) (pe_cl c_law_draw hr (by decide) (by rfl) (pa_cons (pv 0) (pa_cons pe_int pa_nil))))
      (pss_cons (ps_if (pt_cmpR op_eq (pv 2) pe_int (nomark _)) (pss_one (ps_ret (pe_cl c_law_words hr (by decide) (by rfl) (pa_cons (pv 0) (pa_cons (pe_cl0 c_law_all_words hr (by decide) (by rfl)) pa_nil))))) pss_nil)
      (pss_cons (ps_set (i := 3) scLawFlags.nd rfl (.inl rfl) (pe_callTy call_list_of (by rfl) B.list (by decide +kernel) (pa_cons (pe_cl c_law_one hr (by decide) (by rfl) (pa_cons (pv 0) (pa_cons (pv 1) pa_nil))) pa_nil)))
      (pss_cons (ps_if (pt_cmpR op_eq (pv 2) pe_int (nomark _)) (pss_cons (ps_set (i := 4) scLawFlags.nd rfl (.inl rfl) (pe_cl c_law_one hr (by decide) (by rfl) (pa_cons (pv 0) (pa_cons (pe_cl0 c_law_all_words hr (by decide) (by rfl)) pa_nil))))
      (pss_one (ps_set (i := 3) scLawFlags.nd rfl (.inl rfl) (pe_op op_cat (pv 3) (pe_op op_rep (pe_lst (pa_cons (pv 4) pa_nil)) (pe_callTy call_int1 (by rfl) B.int (by decide +kernel) (pa_cons (pe_cmpR op_notIn_seq (pv 4) (pv 3) rfl) pa_nil))))))) pss_nil)
      (pss_one (ps_ret (pv 3))))))), ?_⟩
    refine q_asgAny (dr_draw (a := a) (m := 12) (n := n) (ev_var rfl) ev_c (by decide) (by decide) hw (by omega) fun way H1 w0 w1 xa1 hw1 => ?_)
    refine q_when (b := decide (way = 0)) (et_test (ev_op (ev_var rfl) ev_c rv_eqI)) (fun e H2 x2 => ?_) (fun e H2 x2 => ?_)
    · refine rd_ret (rd_call (rd_cons (rd_ev (ev_var rfl) fun H3 x3 => rd_cons (rd_call (rd_nil ⟨rfl, fun r H4 hr4 x4 h4 => rd_nil ?_⟩)))))
      have w4 : WellAt H4 a (n + 1) := ((hw1.ex x2).ex x3).ex x4
      have hra : r ≠ a := well_ne ((hw1.ex x2).ex x3) hr4
      refine ⟨a, r, flags9, n + 1, rfl, h4, hra, flags9_nodup, by decide, w4, by omega, fun q2 rs H5 hq2 xa5 w5 h5 hqa hm hnd hle => ?_⟩
      exact q q2 rs H5 (fresh_backA (xa1.trans (Exa.of ((x2.trans x3).trans x4))) hqa hq2) ((xa1.trans (Exa.of ((x2.trans x3).trans x4))).trans xa5) (w5.le (by omega)) h5 hqa ⟨hm, hnd, Nat.le_trans hle (by decide)⟩
    · have w2 := hw1.ex x2
      have A2 : Exa a H H2 := xa1.trans (Exa.of x2)
      refine q_asgAny (rd_cb (rd_cons (rd_call (rd_cons (rd_ev (ev_var rfl) fun H3 x3 => rd_cons (rd_ev (ev_var rfl) fun H4 x4 => rd_nil ?_))))))
      have A4 : Exa a H H4 := A2.trans (Exa.of (x3.trans x4))
      refine ⟨a, p, xs, n + 1, rfl, A4 _ _ hpa hp, hpa, hne, hl, (w2.ex x3).ex x4, by omega, fun v H5 hv xa5 w5 => rd_nil ?_⟩
      have A5 := A4.trans xa5
      obtain ⟨g, ws, rfl, hga, h5g, hm, hnd, hlen⟩ := (hg.exa A5) v hv
      refine ⟨g, _, rfl, .inl (sq_of h5g), fun r hr5 => ?_⟩
      have hra : r ≠ a := well_ne w5 hr5
      have A6 : Exa a H (upd H5 r (.lst (ws.map V.str))) := A5.trans (Exa.of (Ex.new hr5))
      have w6 := w5.ex (Ex.new hr5 (o := .lst (ws.map V.str)))
      have h6 : (upd H5 r (.lst (ws.map V.str))) r = some (.lst (ws.map V.str)) := upd_same
      generalize upd H5 r (.lst (ws.map V.str)) = H6 at A6 w6 h6 ⊢
      refine q_when (b := decide (way = 1)) (et_test (ev_op (ev_var rfl) ev_c rv_eqI)) (fun e H7 x7 => ?_) (fun e H7 x7 => ?_)
      · refine q_asgAny (rd_call (rd_cons (rd_ev (ev_var rfl) fun H8 x8 => rd_cons (rd_call (rd_nil ⟨rfl, fun r9 H9 hr9 x9 h9 => rd_nil ?_⟩)))))
        have w9 := ((w6.ex x7).ex x8).ex x9
        have hr9a : r9 ≠ a := well_ne ((w6.ex x7).ex x8) hr9
        refine ⟨a, r9, flags9.map V.str, n + 1 + 1, rfl, h9, hr9a, by decide, by decide, w9, by omega, fun v H10 hv xa10 w10 => ?_⟩
        obtain ⟨z, hz, rfl⟩ := List.mem_map.mp hv
        have h10 : H10 r = some (.lst (ws.map V.str)) := xa10 _ _ hra (((x7.trans x8).trans x9) _ _ h6)
        have A10 : Exa a H H10 := (A6.trans (Exa.of ((x7.trans x8).trans x9))).trans xa10
        have e2 : ∀ b : Bool, (List.replicate (if b then (1 : Nat) else 0) [V.str z]).flatten = (if b then [V.str z] else []) := fun b => by cases b <;> rfl
        refine q_asgAny2 (rd_op (rd_ev (ev_var rfl) fun H11 x11 => rd_op (rd_lst (rd_cons (rd_ev (ev_var rfl) fun H12 x12 => rd_nil ⟨by show 1 ≤ sizeLine; decide, fun p1 hp1 => ?_⟩)))))
        have x13 := (x11.trans x12).trans (Ex.new hp1 (o := .lst [V.str z]))
        have hb : inV (.str z) (ws.map V.str) = decide (z ∈ ws) := inV_strs z ws
        refine rd_ev (v := .int (if (!decide (z ∈ ws)) = true then 1 else 0)) (ev_intB (ev_is (ev_op (ev_var rfl) (ev_var rfl) (rv_niL (sq_of (x13 _ _ h10)) rfl (flat_strs _))) (by rw [hb]))) fun H14 x14 => ?_
        refine ⟨p1, _, [V.str z], rfl, rfl, x14 _ _ upd_same, by split <;> omega, by split <;> omega, ?_, fun p2 hp2 => ?_⟩
        · split <;> exact sz_of (Nat.le_of_ble_eq_true rfl)
        refine ⟨r, p2, ws.map V.str, _, rfl, rfl, (x13.trans (x14.trans (Ex.new hp2))) _ _ h10, upd_same, sz_of ?_, fun p3 hp3 => ?_⟩
        · rw [List.length_map]
          split
          · show ws.length + 1 ≤ 100000; omega
          · show ws.length + 0 ≤ 100000; omega
        refine s_ret (ev_var rfl) fun H15 x15 => ?_
        have xe : Ex H10 H15 := ((x13.trans (x14.trans (Ex.new hp2))).trans (Ex.new hp3)).trans x15
        have w14 := (w10.ex (x13.trans (x14.trans (Ex.new hp2 (o := .lst (List.replicate (if (!decide (z ∈ ws)) = true then (1 : Int) else 0).toNat [V.str z]).flatten)))))
        by_cases hzw : z ∈ ws
        · refine q p3 ws H15 (fresh_backA (A10.trans (Exa.of (x13.trans (x14.trans (Ex.new hp2))))) (well_ne w14 hp3) hp3) (A10.trans (Exa.of xe)) ((w10.ex xe).le (by omega)) ?_ (well_ne w14 hp3) ⟨hm, hnd, by omega⟩
          have e3 := x15 _ _ (upd_same (H := _) (a := p3))
          rw [e3, decide_eq_true hzw]
          simp
        · refine q p3 (ws ++ [z]) H15 (fresh_backA (A10.trans (Exa.of (x13.trans (x14.trans (Ex.new hp2))))) (well_ne w14 hp3) hp3) (A10.trans (Exa.of xe)) ((w10.ex xe).le (by omega)) ?_ (well_ne w14 hp3) ⟨fun y hy => ?_, ?_, by rw [List.length_append]; simp; omega⟩
          · have e3 := x15 _ _ (upd_same (H := _) (a := p3))
            rw [e3, decide_eq_false hzw]
            simp
          · rcases List.mem_append.mp hy with h | h
            · exact hm y h
            · rw [List.mem_singleton.mp h]; exact hz
          · exact List.nodup_append.mpr ⟨hnd, by simp, fun x hx y hy e => hzw (by rw [← List.mem_singleton.mp hy, ← e]; exact hx)⟩
      · exact s_ret (ev_var rfl) fun H8 x8 => q r ws H8 (fresh_backA A5 hra hr5) (A6.trans (Exa.of (x7.trans x8))) (((w6.ex x7).ex x8).le (by omega)) ((x7.trans x8) _ _ h6) hra ⟨hm, hnd, by omega⟩
end
end N8

set_option maxHeartbeats 1000000
namespace N8
open PySem PySem.Spec PyProof.Rows L2 Evl
open SX (S)
abbrev sLawAccesses : Stmt := topS 107
theorem scLawAccesses : FnScope ["flags", "word"] ["flags"] (L2.defScope sLawAccesses) := ⟨rfl, rfl, rfl, by decide +kernel, rfl, by decide +kernel, by decide +kernel⟩
abbrev sLawFits : Stmt := topS 108
theorem scLawFits : FnScope ["descriptor", "constant", "half"] ["descriptor", "constant"] (L2.defScope sLawFits) := ⟨rfl, rfl, rfl, by decide +kernel, rfl, by decide +kernel, by decide +kernel⟩
abbrev sLawFlagsBad : Stmt := topS 110
theorem scLawFlagsBad : FnScope ["is_wide", "name", "flags", "apart", "odd", "word"] ["is_wide", "name", "flags"] (L2.defScope sLawFlagsBad) := ⟨rfl, rfl, rfl, by decide +kernel, rfl, by decide +kernel, by decide +kernel⟩

/-! ### lists of words as data -/
def dW (ws : List Str) : PyData := .list (ws.map .str)
theorem dWs_eqv : ∀ a b : List Str, PyData.eqvAll (a.map .str) (b.map .str) = decide (a = b)
  | [], [] => rfl
  | [], _ :: _ => rfl
  | _ :: _, [] => rfl
  | x :: a, y :: b => by
    have e : PyData.eqvAll ((x :: a).map .str) ((y :: b).map .str) = ((x == y) && PyData.eqvAll (a.map .str) (b.map .str)) := by simp only [List.map_cons, PyData.eqvAll, PyData.eqv]
    rw [e, dWs_eqv a b]
    by_cases h1 : x = y
    · subst h1
      by_cases h2 : a = b
      · subst h2; simp
      · rw [decide_eq_false h2, decide_eq_false (fun z => h2 (List.cons.inj z).2)]; simp
    · have h3 : (x == y) = false := beq_eq_false_iff_ne.mpr h1
      rw [h3, decide_eq_false (fun z => h1 (List.cons.inj z).1)]; rfl
theorem dW_eqv (a b : List Str) : PyData.eqv (dW a) (dW b) = decide (a = b) := by
  have e : PyData.eqv (dW a) (dW b) = PyData.eqvAll (a.map .str) (b.map .str) := by simp only [dW, PyData.eqv]
  rw [e, dWs_eqv]
theorem dWs_lay : ∀ {a : List Str}, (∀ x ∈ a, PyData.strOk x = true) → PyData.canLayAll0 (a.map .str) = true
  | [], _ => rfl
  | x :: a, h => by
    have e := dWs_lay (a := a) fun y hy => h y (List.mem_cons_of_mem _ hy)
    simp only [List.map_cons, PyData.canLayAll0, PyData.canLay0, e, h x List.mem_cons_self]
    rfl
theorem dWs_depth : ∀ a : List Str, PyData.depthAll (a.map .str) ≤ 1
  | [] => by simp [PyData.depthAll]
  | x :: a => by
    have e := dWs_depth a
    have e2 : PyData.depth (.str x) ≤ 1 := by simp [PyData.depth]
    simp only [List.map_cons, PyData.depthAll]
    omega
theorem shaped_of {d : PyData} (h1 : d.canLay0 = true) (h2 : d.depth ≤ 64) : SeqAt.shaped d = true := by
  show (d.canLay0 && decide (d.depth ≤ 64)) = true
  rw [h1, decide_eq_true h2]; rfl
theorem dW_shaped {a : List Str} (h : ∀ x ∈ a, PyData.strOk x = true) : SeqAt.shaped (dW a) = true := shaped_of (by simp only [dW, PyData.canLay0]; exact dWs_lay h) (by
  have e := dWs_depth a
  simp only [dW, PyData.depth]
  omega)
theorem flags_ok : ∀ x ∈ flags9, PyData.strOk x = true := by decide +kernel
section
variable {K : PySem.W.Frag} {σ : L2.St} {H H' : Hp} {te ta tb tl : TE} {t : TT} {v x : V} {D : Ends} {tz tu : TS} {Q : VK}
theorem dWs_dp : ∀ ws : List Str, DpAll K H (ws.map V.str) (ws.map .str)
  | [] => .nil
  | x :: ws => .cons (.str x) (dWs_dp ws)
theorem dW_dp {p : Addr} {ws : List Str} (h : SqL K H p (ws.map V.str)) : Dp K H (.ref p) (dW ws) := .lst h (dWs_dp ws)
/-- a list of words is not another one -/
theorem ev_neW {as bs : List Str} (h1 : EvL ta σ H (as.map V.str)) (h2 : EvL tb σ H (bs.map V.str)) (o1 : ∀ x ∈ as, PyData.strOk x = true) (o2 : ∀ x ∈ bs, PyData.strOk x = true) : Ev (tOp (rNeD K) ta tb) σ H (.bl (!decide (as = bs))) :=
  ev_opLL h1 h2 fun p q H1 hp hq _ => fun H2 e2 Q k => ⟨dW as, dW bs, dW_dp (sq_of (e2 _ _ hp)), dW_dp (sq_of (e2 _ _ hq)), dW_shaped o1, dW_shaped o2, by rw [dW_eqv]; exact k H2 (Ex.refl H2)⟩
theorem ev_neWv {p : Addr} {as bs : List Str} (h1 : Ev ta σ H (.ref p)) (hp : H p = some (.lst (as.map V.str))) (h2 : EvL tb σ H (bs.map V.str)) (o1 : ∀ x ∈ as, PyData.strOk x = true) (o2 : ∀ x ∈ bs, PyData.strOk x = true) : Ev (tOp (rNeD K) ta tb) σ H (.bl (!decide (as = bs))) :=
  ev_opL h1 h2 fun q H1 hq e1 => fun H2 e2 Q k => ⟨dW as, dW bs, dW_dp (sq_of ((e1.trans e2) _ _ hp)), dW_dp (sq_of (e2 _ _ hq)), dW_shaped o1, dW_shaped o2, by rw [dW_eqv]; exact k H2 (Ex.refl H2)⟩
/-- [x for x in a list of words if ..] -/
theorem el_filt {p : Addr} {ws : List Str} {j : Nat} {vs : List Nat} (f : Str → Bool) (h : Ev tl σ H (.ref p)) (hp : H p = some (.lst (ws.map V.str))) (hz : ws.length ≤ 40000) (hw : ∀ x, wipe ((wipe σ vs).set j (some x)) vs = wipe σ vs)
    (ht : ∀ x H1, Ex H H1 → x ∈ ws → EvT t ((wipe σ vs).set j (some (.str x))) H1 (f x)) (he : ∀ x H1, Ex H H1 → Ev te ((wipe σ vs).set j (some (.str x))) H1 (.str x)) : EvL (tLc (iList K tl) (gName j) t te vs) σ H ((ws.filter f).map V.str) := by
  have e : (ws.filter f).map V.str = given (ws.map V.str).length (fun i => f (ws.getD i Str.empty)) (fun i => V.str (ws.getD i Str.empty)) := by
    rw [List.length_map]
    exact (given_strs (ws := ws) f).symm
  rw [e]
  refine el_lcL (xs := ws.map V.str) _ _ h (sq_of hp) (by rw [List.length_map]; exact hz) hw (fun i y H1 x1 hy => ?_) (fun i y H1 x1 hy _ => ?_)
  · rw [List.getElem?_map] at hy
    obtain ⟨z, hz, rfl⟩ := Option.map_eq_some_iff.mp hy
    have ez : ws.getD i Str.empty = z := by rw [List.getD_eq_getElem?_getD, hz]; rfl
    rw [ez]
    exact ht z H1 x1 (List.mem_of_getElem? hz)
  · rw [List.getElem?_map] at hy
    obtain ⟨z, hz, rfl⟩ := Option.map_eq_some_iff.mp hy
    have ez : ws.getD i Str.empty = z := by rw [List.getD_eq_getElem?_getD, hz]; rfl
    rw [ez]
    exact he z H1 x1
/-- [x for x in (a, b, ..) if ..] -/
theorem el_filtT {ws : List Str} {j : Nat} {vs : List Nat} (f : Str → Bool) (h : EvU tl σ H (ws.map V.str)) (hz : ws.length ≤ 40000) (hw : ∀ x, wipe ((wipe σ vs).set j (some x)) vs = wipe σ vs)
    (ht : ∀ x H1, Ex H H1 → x ∈ ws → EvT t ((wipe σ vs).set j (some (.str x))) H1 (f x)) (he : ∀ x H1, Ex H H1 → Ev te ((wipe σ vs).set j (some (.str x))) H1 (.str x)) : EvL (tLc (iTup K tl) (gName j) t te vs) σ H ((ws.filter f).map V.str) := by
  have e : (ws.filter f).map V.str = given (ws.map V.str).length (fun i => f (ws.getD i Str.empty)) (fun i => V.str (ws.getD i Str.empty)) := by
    rw [List.length_map]
    exact (given_strs (ws := ws) f).symm
  rw [e]
  refine fun H0 e0 Q q => h H0 e0 _ fun a H1 ha e1 hx => ⟨a, rfl, ⟨_, st_of hx⟩, fun Dl hD => ?_⟩
  refine lc_tup (xs := ws.map V.str) (Cw H1 _ _ Dl) ⟨hD, Ex.new hD, upd_same⟩ (fun i H' _ p => st_of (p.2.1 a _ hx)) (fun i y H' hi p => ⟨hw y, cw_turn p (by have := (List.getElem?_eq_some_iff.mp hi).1; rw [List.length_map] at this; omega) ?_ (fun hf => ?_)⟩) (fun H' p => q Dl H' (fresh_back e1 p.1) (e1.trans p.2.1) p.2.2)
  · rw [List.getElem?_map] at hi
    obtain ⟨z, hz, rfl⟩ := Option.map_eq_some_iff.mp hi
    have ez : ws.getD i Str.empty = z := by rw [List.getD_eq_getElem?_getD, hz]; rfl
    rw [ez]
    exact ht z H1 (e0.trans e1) (List.mem_of_getElem? hz)
  · rw [List.getElem?_map] at hi
    obtain ⟨z, hz, rfl⟩ := Option.map_eq_some_iff.mp hi
    have ez : ws.getD i Str.empty = z := by rw [List.getD_eq_getElem?_getD, hz]; rfl
    rw [ez]
    exact he z H1 (e0.trans e1)
theorem ev_inW {p : Addr} {ws : List Str} {z : Str} (h : Ev ta σ H (.str z)) (h2 : Ev tb σ H (.ref p)) (hp : H p = some (.lst (ws.map V.str))) : Ev (tOp (rIn K false) ta tb) σ H (.bl (decide (z ∈ ws))) := ev_is (ev_op h h2 (rv_isL (sq_of hp) rfl (flat_strs _))) (by rw [inV_strs])
theorem ev_niW {p : Addr} {ws : List Str} {z : Str} (h : Ev ta σ H (.str z)) (h2 : Ev tb σ H (.ref p)) (hp : H p = some (.lst (ws.map V.str))) : Ev (tOp (rIn K true) ta tb) σ H (.bl (!decide (z ∈ ws))) := ev_is (ev_op h h2 (rv_niL (sq_of hp) rfl (flat_strs _))) (by rw [inV_strs])
theorem ev_inWU {ws : List Str} {z : Str} (h : Ev ta σ H (.str z)) (h2 : EvU tb σ H (ws.map V.str)) : Ev (tOp (rIn K false) ta tb) σ H (.bl (decide (z ∈ ws))) := ev_is (ev_inU h h2 rfl (flat_strs _)) (by rw [inV_strs])
end
/-- how many of the three words of access -/
def accN (ws : List Str) : Nat := ((["public", "private", "protected"] : List Str).filter fun x => decide (x ∈ ws)).length
def spAcc : Sp := fun vs H Q _ => ∃ (p : Addr) (ws : List Str), vs = [.ref p] ∧ H p = some (.lst (ws.map V.str)) ∧ ∀ H', Ex H H' → Q (.int (accN ws : Int)) H'
/-- the flags of a method are wrong -/
def badF (wide : Bool) (name : Str) (ws : List Str) : Bool :=
  if name = "<clinit>" then !decide (ws = (["static"] : List Str))
  else if decide (("interface" : Str) ∈ ws) || decide (accN ws > 1) then true
  else if decide (("abstract" : Str) ∈ ws) && !decide (ws.filter (fun x => decide (x ∈ (["private", "static", "final", "synchronized", "native"] : List Str))) = []) then true
  else if decide (name = "<init>") && !decide ((ws.length : Int) = (accN ws : Int)) then true
  else wide && (!decide (ws.filter (fun x => decide (x ∈ (["protected", "final", "synchronized", "native"] : List Str))) = []) || (!decide (("public" : Str) ∈ ws) && !decide (("private" : Str) ∈ ws)))
def spBadF : Sp := fun vs H Q _ => ∃ (wide : Bool) (name : Str) (p : Addr) (ws : List Str), vs = [.bl wide, .str name, .ref p] ∧ H p = some (.lst (ws.map V.str)) ∧ Flags ws ∧ ∀ H', Ex H H' → Q (.bl (badF wide name ws)) H'
section
variable {P : Program} {w : World} {K : PySem.W.Frag} {mg : Str → Option Value} {base : Heap}
theorem ok_accesses {f : Addr} {fd : FuncData} (F : FnP K "_law_accesses" sLawAccesses f fd) (B : Bt mg) : FnOk P w K mg base L2.CX0 1 f fd ["flags"] spAcc := by
  refine F.ok scLawAccesses (fun vs H Q E h => ?_) (fun cdv A outer s H vs Q E hr h => ?_)
  · obtain ⟨p, ws, rfl, _⟩ := h
    rfl
  · obtain ⟨p, ws, rfl, hp, q⟩ := h
    refine ⟨_, PSs.nox (pss_one (ps_ret (pe_callB call_len_seq (by rfl) B.len PySem.boot_len (pa_cons (pe_lc (own := [("word", 1)]) (g := gName 1) rfl scLawAccesses.nd (pi_tup (pe_tup (pa_cons pe_str (pa_cons pe_str (pa_cons pe_str pa_nil))))) (blkOk_by (N := ["flags", "word"]) (sc := L2.defScope sLawAccesses) (by decide +kernel)) (fun _ _ _ _ _ => pg_name (i := 1) scLawAccesses.nd rfl (Or.inl rfl)) (fun _ _ _ _ _ => (pts_one (pt_cmpR (r := rIn K false) op_in_seq (pv 1) (pv 0) rfl))) (fun _ _ _ _ _ => (pv 1))) pa_nil)))), ?_⟩
    refine s_ret (ev_is (ev_lenN (xs := ((["public", "private", "protected"] : List Str).filter fun x => decide (x ∈ ws)).map V.str) (el_filtT (ws := ["public", "private", "protected"]) (fun x => decide (x ∈ ws)) (eu_tup (ea_cons ev_c (ea_cons ev_c (ea_cons ev_c ea_nil))) (by show 3 ≤ 100000; decide)) (by decide) (fun _ => rfl) (fun x H1 x1 _ => et_test (ev_inW (ev_var rfl) (ev_var rfl) (x1 _ _ hp))) (fun x H1 x1 => ev_var rfl))) ?_) q
    rw [List.length_map]; rfl
theorem ok_flagsBad {f : Addr} {fd : FuncData} (F : FnP K "_law_flags_bad" sLawFlagsBad f fd) (B : Bt mg) (c_law_accesses : Cl P w K mg base L2.CX0 1 "_law_accesses" ["flags"] spAcc) : FnOk P w K mg base L2.CX0 2 f fd ["is_wide", "name", "flags"] spBadF := by
  refine F.ok scLawFlagsBad (fun vs H Q E h => ?_) (fun cdv A outer s H vs Q E hr h => ?_)
  · obtain ⟨wide, name, p, ws, rfl, _⟩ := h
    rfl
  · obtain ⟨wide, name, p, ws, rfl, hp, hf, q⟩ := h
    refine ⟨_, PSs.nox (pss_cons (ps_if (pt_cmpR op_eq (pv 1) pe_str (nomark _)) (pss_one (ps_ret (pe_cmpR (op_neD hr.units) (pv 2) (pe_lst (pa_cons pe_str pa_nil)) (nomark _)))) pss_nil)
      (pss_cons (ps_if (PW.pt (pw_or (pt_cmpR op_in_seq pe_str (pv 2) rfl) (pw_or1 (pt_cmpR op_gt (pe_cl c_law_accesses hr (by decide) (by rfl) (pa_cons (pv 2) pa_nil)) pe_int (nomark _))))) (pss_one (ps_ret pe_bl)) pss_nil)
      (pss_cons (ps_setLc (i := 3) (own := [("word", 5)]) (g := gName 5) rfl scLawFlagsBad.nd rfl rfl (sw_true rfl rfl rfl (by decide +kernel)) (pi_list (pv 2)) (blkOk_by (N := ["is_wide", "name", "flags", "apart", "odd", "word"]) (sc := L2.defScope sLawFlagsBad) (by decide +kernel)) (fun _ _ _ _ _ => pg_name (i := 5) scLawFlagsBad.nd rfl (Or.inl rfl)) (fun _ _ _ _ _ => (pts_one (pt_cmpR (r := rIn K false) op_in_seq (pv 5) (pe_tup (pa_cons pe_str (pa_cons pe_str (pa_cons pe_str (pa_cons pe_str (pa_cons pe_str pa_nil)))))) rfl))) (fun _ _ _ _ _ => (pv 5)))
      (pss_cons (ps_if (PW.pt (pw_and (pt_cmpR op_in_seq pe_str (pv 2) rfl) (pw_and1 (pt_cmpR (op_neD hr.units) (pv 3) (pe_lst pa_nil) (nomark _))))) (pss_one (ps_ret pe_bl)) pss_nil)
      (pss_cons (ps_if (PW.pt (pw_and (pt_cmpR op_eq (pv 1) pe_str (nomark _)) (pw_and1 (pt_cmpR op_ne (pe_callB call_len_seq (by rfl) B.len PySem.boot_len (pa_cons (pv 2) pa_nil)) (pe_cl c_law_accesses hr (by decide) (by rfl) (pa_cons (pv 2) pa_nil)) (nomark _))))) (pss_one (ps_ret pe_bl)) pss_nil)
      (pss_cons (ps_setLc (i := 4) (own := [("word", 5)]) (g := gName 5) rfl scLawFlagsBad.nd rfl rfl (sw_true rfl rfl rfl (by decide +kernel)) (pi_list (pv 2)) (blkOk_by (N := ["is_wide", "name", "flags", "apart", "odd", "word"]) (sc := L2.defScope sLawFlagsBad) (by decide +kernel)) (fun _ _ _ _ _ => pg_name (i := 5) scLawFlagsBad.nd rfl (Or.inl rfl)) (fun _ _ _ _ _ => (pts_one (pt_cmpR (r := rIn K false) op_in_seq (pv 5) (pe_tup (pa_cons pe_str (pa_cons pe_str (pa_cons pe_str (pa_cons pe_str pa_nil))))) rfl))) (fun _ _ _ _ _ => (pv 5)))
      (pss_one (ps_ret (pe_and (pv 0) (pe_one (pe_or (pe_cmpR (op_neD hr.units) (pv 4) (pe_lst pa_nil) (nomark _)) (pe_one (pe_and (pe_cmpR op_notIn_seq pe_str (pv 2) rfl) (pe_one (pe_cmpR op_notIn_seq pe_str (pv 2) rfl))))))))))))))), ?_⟩
    have okw : ∀ x ∈ ws, PyData.strOk x = true := fun x hx => flags_ok x (hf.1 x hx)
    have okf : ∀ f : Str → Bool, ∀ x ∈ ws.filter f, PyData.strOk x = true := fun f x hx => okw x (List.mem_filter.mp hx).1
    have o0 : ∀ x ∈ ([] : List Str), PyData.strOk x = true := fun x hx => by cases hx
    have hl := hf.2.2
    have acc : ∀ {σ' : L2.St} {H1 : Hp}, σ'[2]? = some (some (.ref p)) → Ex H H1 → Ev (tCall spAcc [] L2.E0 (tCons (tVar 2) tNil)) σ' H1 (.int (accN ws : Int)) := fun h0 x1 => ev_call (ea_cons (ev_var h0) ea_nil) fun H2 e2 Q' q' E' => ⟨p, ws, rfl, (x1.trans e2) _ _ hp, q'⟩
    refine q_when (b := decide (name = "<clinit>")) (et_test (ev_is (ev_op (ev_var rfl) ev_c (rv_eq rfl)) (bl_iff ⟨fun e => V.str.inj e, fun e => by rw [e]⟩))) (fun e H1 x1 => ?_) (fun e H1 x1 => ?_)
    · have en := of_decide_eq_true e
      refine s_ret (v := .bl (badF wide name ws)) (ev_is (ev_neWv (bs := ["static"]) (ev_var rfl) (x1 _ _ hp) (el_lst (vs := [.str "static"]) (ea_cons ev_c ea_nil) (by show 1 ≤ 100000; decide)) okw (by decide +kernel)) ?_) fun H2 x2 => q H2 (x1.trans x2)
      unfold badF
      rw [if_pos en]
    have n1 := of_decide_eq_false e
    refine q_when (b := decide (("interface" : Str) ∈ ws) || decide (accN ws > 1)) (et_or (et_test (ev_inW ev_c (ev_var rfl) (x1 _ _ hp))) fun _ => et_test (ev_is (ev_op (acc rfl x1) ev_c rv_I0) (bl_iff (by omega)))) (fun e H2 x2 => ?_) (fun e2 H2 x2 => ?_)
    · refine s_ret (v := .bl (badF wide name ws)) (ev_is ev_c ?_) fun H3 x3 => q H3 ((x1.trans x2).trans x3)
      unfold badF
      rw [if_neg n1, if_pos e]
    have x12 := x1.trans x2
    refine q_asgL (el_filt (ws := ws) (fun x => decide (x ∈ (["private", "static", "final", "synchronized", "native"] : List Str))) (ev_var rfl) (x12 _ _ hp) (by omega) (fun _ => rfl) (fun x H3 x3 _ => et_test (ev_inWU (ws := ["private", "static", "final", "synchronized", "native"]) (ev_var rfl) (eu_tup (vs := (["private", "static", "final", "synchronized", "native"] : List Str).map V.str) (ea_cons ev_c (ea_cons ev_c (ea_cons ev_c (ea_cons ev_c (ea_cons ev_c ea_nil))))) (by decide)))) (fun x H3 x3 => ev_var rfl)) fun pa H3 hpa x3 h3 => ?_
    have x13 := x12.trans x3
    refine q_when (b := decide (("abstract" : Str) ∈ ws) && !decide (ws.filter (fun x => decide (x ∈ (["private", "static", "final", "synchronized", "native"] : List Str))) = [])) (et_and (et_test (ev_inW ev_c (ev_var rfl) (x13 _ _ hp))) fun _ => et_test (ev_neWv (bs := []) (ev_var rfl) h3 (el_lst ea_nil (by decide)) (okf _) o0)) (fun e H4 x4 => ?_) (fun e3 H4 x4 => ?_)
    · refine s_ret (v := .bl (badF wide name ws)) (ev_is ev_c ?_) fun H5 x5 => q H5 ((x13.trans x4).trans x5)
      unfold badF
      rw [if_neg n1, if_neg (by rw [e2]; decide), if_pos e]
    have x14 := x13.trans x4
    refine q_when (b := decide (name = "<init>") && !decide ((ws.length : Int) = (accN ws : Int))) (et_and (et_test (ev_is (ev_op (ev_var rfl) ev_c (rv_eq rfl)) (bl_iff ⟨fun e => V.str.inj e, fun e => by rw [e]⟩))) fun _ => et_test (ev_op (ev_is (ev_lenLst (ev_var rfl) (x14 _ _ hp)) (by rw [List.length_map])) (acc rfl x14) rv_neI)) (fun e H5 x5 => ?_) (fun e4 H5 x5 => ?_)
    · refine s_ret (v := .bl (badF wide name ws)) (ev_is ev_c ?_) fun H6 x6 => q H6 ((x14.trans x5).trans x6)
      unfold badF
      rw [if_neg n1, if_neg (by rw [e2]; decide), if_neg (by rw [e3]; decide), if_pos e]
    have x15 := x14.trans x5
    refine q_asgL (el_filt (ws := ws) (fun x => decide (x ∈ (["protected", "final", "synchronized", "native"] : List Str))) (ev_var rfl) (x15 _ _ hp) (by omega) (fun _ => rfl) (fun x H6 x6 _ => et_test (ev_inWU (ws := ["protected", "final", "synchronized", "native"]) (ev_var rfl) (eu_tup (vs := (["protected", "final", "synchronized", "native"] : List Str).map V.str) (ea_cons ev_c (ea_cons ev_c (ea_cons ev_c (ea_cons ev_c ea_nil)))) (by decide)))) (fun x H6 x6 => ev_var rfl)) fun po H6 hpo x6 h6 => ?_
    have x16 := x15.trans x6
    refine s_ret (v := .bl (badF wide name ws)) (ev_is (ev_andV (a := wide) (ev_var rfl) fun _ => ev_orV (ev_neWv (bs := []) (ev_var rfl) h6 (el_lst ea_nil (by decide)) (okf _) o0) fun _ => ev_andV (ev_niW ev_c (ev_var rfl) (x16 _ _ hp)) fun _ => ev_niW ev_c (ev_var rfl) (x16 _ _ hp)) ?_) fun H7 x7 => q H7 (x16.trans x7)
    unfold badF
    rw [if_neg n1, if_neg (by rw [e2]; decide), if_neg (by rw [e3]; decide), if_neg (by rw [e4]; decide)]
end
end N8

set_option maxHeartbeats 1000000
namespace N8
open PySem PySem.Spec PyProof.Rows L2 Evl
open SX (S)
abbrev sLawFieldDue : Stmt := topS 109
theorem scLawFieldDue : FnScope ["is_wide", "field", "ahead", "name", "descriptor", "flags", "constant", "others", "word", "one"] ["is_wide", "field", "ahead"] (L2.defScope sLawFieldDue) := ⟨rfl, rfl, rfl, by decide +kernel, rfl, by decide +kernel, by decide +kernel⟩

/-! ### which constants a descriptor has -/
def letters6 : List Str := ["Z", "B", "S", "C", "I", "J"]
def half (d : Str) : Int := if d = "J" then 2 ^ 63 else 2 ^ 31
def isStrV : V → Bool
  | .str _ => true
  | _ => false
def fitsI (d : Str) (i : Int) : Bool := if d = "LString;" then false else if !decide (d ∈ letters6) then false else decide (0 - half d ≤ i) && decide (i < half d)
def fitsB (d : Str) : V → Bool
  | .str _ => decide (d = "LString;")
  | .int i => fitsI d i
  | _ => false
def spFits : Sp := fun vs H Q _ => ∃ (d : Str) (x : V), vs = [.str d, x] ∧ ((∃ z, x = .str z) ∨ ∃ i, x = .int i) ∧ ∀ H', Ex H H' → Q (.bl (fitsB d x)) H'
/-! ### three words in order -/
def wide3 : List Str := ["final", "public", "static"]
theorem sorted3 : ∀ x ∈ wide3, ∀ y ∈ wide3, ∀ z ∈ wide3, x ≠ y → x ≠ z → y ≠ z → sortedS [x, y, z] = true → [x, y, z] = wide3 := by decide +kernel
theorem wide_sorted {ws ys : List Str} (hp : ys.Perm ws) (hs : sortedS ys = true) : decide (ys = wide3) = decide (ws.Perm wide3) := by
  by_cases h : ws.Perm wide3
  · rw [decide_eq_true h]
    have hy := hp.trans h
    match ys, hy.length_eq with
    | [x, y, z], _ =>
      have hd : [x, y, z].Nodup := hy.nodup_iff.mpr (by decide +kernel)
      have hm : ∀ u ∈ [x, y, z], u ∈ wide3 := fun u hu => hy.mem_iff.mp hu
      simp only [List.nodup_cons, List.mem_cons, List.not_mem_nil, or_false, not_or] at hd
      exact decide_eq_true (sorted3 x (hm x (by simp)) y (hm y (by simp)) z (hm z (by simp)) hd.1.1 hd.1.2 hd.2.1 hs)
  · rw [decide_eq_false h]
    exact decide_eq_false fun e => h (hp.symm.trans (e ▸ List.Perm.refl _))
section
variable {P : Program} {w : World} {K : PySem.W.Frag} {mg : Str → Option Value} {base : Heap}
theorem ok_lawFits {f : Addr} {fd : FuncData} (F : FnP K "_law_fits" sLawFits f fd) (B : Bt mg) : FnOk P w K mg base L2.CX0 1 f fd ["descriptor", "constant"] spFits := by
  refine F.ok scLawFits (fun vs H Q E h => ?_) (fun cdv A outer s H vs Q E hr h => ?_)
  · obtain ⟨d, x, rfl, _⟩ := h
    rfl
  · obtain ⟨d, x, rfl, hx, q⟩ := h
    refine ⟨_, PSs.nox (pss_cons (ps_if (pt_cmpR op_eq (pv 0) pe_str (nomark _)) (pss_one (ps_ret (pe_callB call_isi (by rfl) B.isi (by decide +kernel) (pa_cons (pv 1) (pa_cons (pe_bltn (v := .ty "str") (by rfl) B.str (by decide +kernel) rfl) pa_nil))))) pss_nil)
      (pss_cons (ps_if (PW.pt (pw_or (pt_val (pe_callB call_isi (by rfl) B.isi (by decide +kernel) (pa_cons (pv 1) (pa_cons (pe_bltn (v := .ty "str") (by rfl) B.str (by decide +kernel) rfl) pa_nil)))) (pw_or1 (pt_cmpR op_notIn_seq (pv 0) (pe_tup (pa_cons pe_str (pa_cons pe_str (pa_cons pe_str (pa_cons pe_str (pa_cons pe_str (pa_cons pe_str pa_nil))))))) rfl)))) (pss_one (ps_ret pe_bl)) pss_nil)
      (pss_cons (ps_set (i := 2) scLawFits.nd rfl (.inl rfl) (pe_ifExp (pt_cmpR op_eq (pv 0) pe_str (nomark _)) (pe_op op_pow pe_int pe_int) (pe_op op_pow pe_int pe_int)))
      (pss_one (ps_ret (pe_chain op_le op_lt (pe_op op_sub pe_int (pv 2)) (pv 1) (pv 2))))))), ?_⟩
    have isS : ∀ {σ' : L2.St} {H1 : Hp}, σ'[1]? = some (some x) → Ev (tCB (rIsi K) (tCons (tVar 1) (tCons (tC (.ty "str")) tNil))) σ' H1 (.bl (isStrV x)) := by
      intro σ' H1 h0
      rcases hx with ⟨z, rfl⟩ | ⟨i, rfl⟩
      · exact ev_isStr (ev_var h0)
      · exact ev_isi (b := false) (ev_var h0) (.base (.int i)) (by decide +kernel)
    have eqd : ∀ {σ' : L2.St} {H1 : Hp} {z : Str}, σ'[0]? = some (some (.str d)) → Ev (tOp rEq (tVar 0) (tC (.str z))) σ' H1 (.bl (decide (d = z))) := fun h0 => ev_is (ev_op (ev_var h0) ev_c (rv_eq rfl)) (bl_iff ⟨fun e => V.str.inj e, fun e => by rw [e]⟩)
    refine q_when (b := decide (d = "LString;")) (et_test (eqd rfl)) (fun e H1 x1 => ?_) (fun e H1 x1 => ?_)
    · have ed := of_decide_eq_true e
      refine s_ret (v := .bl (fitsB d x)) (ev_is (isS rfl) ?_) fun H2 x2 => q H2 (x1.trans x2)
      rcases hx with ⟨z, rfl⟩ | ⟨i, rfl⟩
      · exact congrArg V.bl e.symm
      · show V.bl false = V.bl (fitsI d i)
        unfold fitsI; rw [if_pos ed]
    have nd := of_decide_eq_false e
    refine q_when (b := (isStrV x) || !decide (d ∈ letters6)) (et_or (et_test (isS rfl)) fun _ => et_test (ev_is (ev_niU (xs := letters6.map V.str) (ev_var rfl) (eu_tup (vs := letters6.map V.str) (ea_cons ev_c (ea_cons ev_c (ea_cons ev_c (ea_cons ev_c (ea_cons ev_c (ea_cons ev_c ea_nil)))))) (by decide)) rfl (flat_strs _)) (by rw [inV_strs]))) (fun e2 H2 x2 => ?_) (fun e2 H2 x2 => ?_)
    · refine s_ret (v := .bl (fitsB d x)) (ev_is ev_c ?_) fun H3 x3 => q H3 ((x1.trans x2).trans x3)
      rcases hx with ⟨z, rfl⟩ | ⟨i, rfl⟩
      · exact congrArg V.bl e.symm
      · show V.bl false = V.bl (fitsI d i)
        unfold fitsI
        have e3 : (!decide (d ∈ letters6)) = true := e2
        rw [if_neg nd, if_pos e3]
    rcases hx with ⟨z, rfl⟩ | ⟨i, rfl⟩
    · cases e2
    have e3 : (!decide (d ∈ letters6)) = false := e2
    refine q_asg (v := .int (half d)) ?_ fun H3 x3 => ?_
    · refine ev_if (b := decide (d = "J")) (et_test (eqd rfl)) (fun e => ?_) (fun e => ?_)
      · exact ev_is (ev_op ev_c ev_c (rv_I (by unfold CPow; decide))) (by unfold half; rw [if_pos (of_decide_eq_true e)]; rfl)
      · exact ev_is (ev_op ev_c ev_c (rv_I (by unfold CPow; decide))) (by unfold half; rw [if_neg (of_decide_eq_false e)]; rfl)
    refine s_ret (v := .bl (fitsB d (.int i))) (ev_is (ev_chain (a := decide (0 - half d ≤ i)) (b := decide (i < half d)) (ev_op ev_c (ev_var rfl) rv_I0) (ev_var rfl) rv_I0 fun _ => ⟨ev_var rfl, rv_I0⟩) ?_) fun H4 x4 => q H4 (((x1.trans x2).trans x3).trans x4)
    show _ = V.bl (fitsI d i)
    unfold fitsI
    rw [if_neg nd, if_neg (by rw [e3]; decide)]
end
end N8

set_option maxHeartbeats 1000000
/-! xs != [], whatever the items of xs are -/
namespace SD
open PySem PySem.Spec PyProof.Rows L2
open PySem.SeqAt
open AutoSeq1 (wpAny_loadPart')
open MeetsSeq MeetsSeq2 MeetsSeq3 SeqRoads2
section
variable {prog : Program} {w : World} {A : Around} {E : Value → Shared → Prop}
theorem neNil {l b : Addr} {items : Array Value} {n n2 : Nat} {hp : Heap} {g : Array GenState} {d : Drawn} {t : Nat} {os : OsState} {Q : Value → Shared → Prop} (hu : A.units < cLine) (h1 : hp.get? l = some { cls := .type "list", data := .seq items n }) (h2 : hp.get? b = some { cls := .type "list", data := .seq #[] n2 })
    (z : Q (.bool (items.size != 0)) ⟨hp, g, d, t, os⟩) : wpAny (model prog w) A (richCompare .NotEq (.ref l) (.ref b)) Q E ⟨hp, g, d, t, os⟩ := by
  refine wpAny_richCompare_same_room (op := .NotEq) ⟨_, h1, rfl⟩ ⟨_, h2, rfl⟩ F.slot_list_ne (GQ.call_here F.slot_list_ne ⟨_, h1, rfl⟩ F.entry_list_ne (F.args_list_ne_2 _ _) ?_) hu
  have _f := AutoSeq1.sub_list_list
  by_cases hs : items.size = 0
  · obtain rfl : items = #[] := Array.eq_empty_of_size_eq_zero hs
    have z' : Q (.bool false) ⟨hp, g, d, t, os⟩ := z
    have hn : ¬ ((#[] : Array Value).size != (#[] : Array Value).size) = true := by decide
    wp_walk using wpAny_loadPart' h1, wpAny_loadPart' h2
    refine ⟨plainId_quiet plain_eq_loop _, codeAny_builtin entry_eq_loop ?_⟩
    rw [Around.under_plainId plain_eq_loop _]
    unfold Builtin.«list.__eq__.loop»
    wp_walk using wpAny_loadPart' h1, wpAny_loadPart' h2
    exact ⟨(fun x => nomatch x), z'⟩
  · have hn : (items.size != (#[] : Array Value).size) = true := by simp [hs]
    have z' : Q (.bool true) ⟨hp, g, d, t, os⟩ := by
      have e : (items.size != 0) = true := by simp [hs]
      rw [e] at z
      exact z
    wp_walk using wpAny_loadPart' h1, wpAny_loadPart' h2
    exact ⟨(fun x => nomatch x), z'⟩
end
/-- xs != [] -/
def rNeNil : R2 := fun x y H Q => ∃ (a b : Addr) (xs : List V), x = .ref a ∧ y = .ref b ∧ H a = some (.lst xs) ∧ H b = some (.lst []) ∧ Q (.bl (!xs.isEmpty)) H
theorem op_neNil {X : Cx} (hu : X.A.units < cLine) : OpR X (compareOp .NotEq) rNeNil := by
  intro pins s σ H x y v u Q I rx ry h
  obtain ⟨a, b, xs, rfl, rfl, ha, hb, q⟩ := h
  cases rx
  cases ry
  obtain ⟨_, its, n, r1, h1⟩ := (show ObjOk X.prog X.w H s.heap a (.lst xs) from I.hok a _ ha)
  obtain ⟨_, its', n', r2, k1⟩ := (show ObjOk X.prog X.w H s.heap b (.lst []) from I.hok b _ hb)
  cases r2
  obtain ⟨hp, g, d, t, os⟩ := s
  refine neNil hu h1 k1 ⟨.bl (!xs.isEmpty), H, I, ?_, q⟩
  show Value.bool (its.toArray.size != 0) = Value.bool (!xs.isEmpty)
  have e : its.toArray.size = xs.length := by rw [List.size_toArray, ← r1.length]
  rw [e]
  cases xs <;> rfl
end SD

set_option maxHeartbeats 2000000
namespace N8
open PySem PySem.Spec PyProof.Rows L2 Evl
open SX (S)
/-! ### what is wrong with a field -/
def same2 (o m : Mem) : Bool := decide (o.name = m.name) && decide (o.desc = m.desc)
def five : List Str := ["public", "private", "protected", "static", "final"]
def fieldDue (wide : Bool) (m : Mem) (ahead : List Mem) : Option Str :=
  if (!decide (m.ws.filter (fun x => !decide (x ∈ five)) = []) || decide (accN m.ws > 1)) = true then some "flags"
  else if (wide && !decide (m.ws.Perm wide3)) = true then some "flags"
  else if ahead.any (fun o => same2 o m) = true then some "twice"
  else if (!decide (m.x = .non) && (!decide (("static" : Str) ∈ m.ws) || !fitsB (S m.desc) m.x)) = true then some "constant"
  else none
def optV : Option Str → V
  | none => .non
  | some z => .str z
def TxtOk (m : Mem) : Prop := PyData.strOk (S m.name) = true ∧ PyData.strOk (S m.desc) = true
def spFieldDue : Sp := fun vs H Q _ => ∃ (wide : Bool) (v : V) (p : Addr) (m : Mem) (xs : List V) (ahead : List Mem), vs = [.bl wide, v, .ref p] ∧ MemAt H v m ∧ H p = some (.lst xs) ∧ Mems (MemAt H) xs ahead ∧ xs.length ≤ 100 ∧ Flags m.ws ∧ TxtOk m ∧ (∀ o ∈ ahead, TxtOk o) ∧
  (m.x = .non ∨ (∃ z, m.x = .str z) ∨ ∃ i, m.x = .int i) ∧ ∀ H', Ex H H' → Q (optV (fieldDue wide m ahead)) H'
def dP (n d : List Nat) : PyData := .tuple [.str (S n), .str (S d)]
theorem dP_eqv (a b c d : List Nat) : PyData.eqv (dP a b) (dP c d) = (decide (a = c) && decide (b = d)) := by
  have e : PyData.eqv (dP a b) (dP c d) = ((S a == S c) && ((S b == S d) && true)) := by simp only [dP, PyData.eqv, PyData.eqvAll]
  rw [e, SX.S_beq_eq, SX.S_beq_eq, Bool.and_true]
theorem dP_shaped {a b : List Nat} (h1 : PyData.strOk (S a) = true) (h2 : PyData.strOk (S b) = true) : SeqAt.shaped (dP a b) = true := shaped_of (by simp only [dP, PyData.canLay0, PyData.canLayAll0, h1, h2]; rfl) (by simp [dP, PyData.depth, PyData.depthAll])
theorem given_empty (n : Nat) (f : Nat → Bool) (v : Nat → V) : (given n f v).isEmpty = !(List.range n).any f := by
  unfold given
  rw [List.isEmpty_map]
  cases h : (List.range n).any f with
  | true =>
    obtain ⟨i, hi, hf⟩ := List.any_eq_true.mp h
    have : i ∈ (List.range n).filter f := List.mem_filter.mpr ⟨hi, hf⟩
    cases e : (List.range n).filter f with
    | nil => rw [e] at this; cases this
    | cons => rfl
  | false =>
    have e : (List.range n).filter f = [] := List.filter_eq_nil_iff.mpr fun i hi hf => by
      have := List.any_eq_false.mp h i hi
      exact this hf
    rw [e]; rfl
theorem any_at (l : List Mem) (g : Mem → Bool) : ((List.range l.length).any fun i => (l[i]?).any g) = l.any g := by
  cases h : l.any g with
  | true =>
    obtain ⟨o, ho, hg⟩ := List.any_eq_true.mp h
    obtain ⟨i, hi, rfl⟩ := List.getElem_of_mem ho
    exact List.any_eq_true.mpr ⟨i, List.mem_range.mpr hi, by rw [List.getElem?_eq_getElem hi]; exact hg⟩
  | false =>
    refine List.any_eq_false.mpr fun i hi => ?_
    have hlt := List.mem_range.mp hi
    rw [List.getElem?_eq_getElem hlt]
    exact List.any_eq_false.mp h _ (List.getElem_mem hlt)
theorem Mems.at {R : V → Mem → Prop} : ∀ {vs : List V} {ms : List Mem} {i : Nat} {v : V}, Mems R vs ms → vs[i]? = some v → ∃ m, ms[i]? = some m ∧ R v m
  | _, _, _, _, .nil, h => by simp at h
  | _, _, 0, v, .cons h1 _, h => by
    obtain rfl : _ = v := by simpa using h
    exact ⟨_, rfl, h1⟩
  | _, _, i + 1, v, .cons _ h2, h => by
    obtain ⟨m, e, r⟩ := Mems.at (i := i) h2 (by simpa using h)
    exact ⟨m, by simpa using e, r⟩
section
variable {K : PySem.W.Frag} {σ : L2.St} {H H' : Hp} {te ta tb tl : TE} {t : TT} {v x : V}
/-- a[:2] of a tuple of four: a new pair -/
theorem eu_pair {p : Addr} {a b c d : V} (h : Ev te σ H (.ref p)) (hp : H p = some (.tup [a, b, c, d])) : EvU (tSl (rSlT K) te tNoPart (tPart (tC (.int 2)))) σ H [a, b] := fun H1 e Q q =>
  h H1 e _ fun H2 e2 => ⟨2, rfl, p, _, rfl, st_of ((e.trans e2) _ _ hp), (fun z => by cases z.2), fun r hr => q r _ (fresh_back e2 hr) (e2.trans (Ex.new hr)) upd_same⟩
end
section
variable {P : Program} {w : World} {K : PySem.W.Frag} {mg : Str → Option Value} {base : Heap}
theorem ok_fieldDue {f : Addr} {fd : FuncData} (F : FnP K "_law_field_due" sLawFieldDue f fd) (B : Bt mg) (c_law_accesses : Cl P w K mg base L2.CX0 1 "_law_accesses" ["flags"] spAcc) (c_law_fits : Cl P w K mg base L2.CX0 1 "_law_fits" ["descriptor", "constant"] spFits) :
    FnOk P w K mg base L2.CX0 2 f fd ["is_wide", "field", "ahead"] spFieldDue := by
  refine F.ok scLawFieldDue (fun vs H Q E h => ?_) (fun cdv A outer s H vs Q E hr h => ?_)
  · obtain ⟨wide, v, p, m, xs, ahead, rfl, _⟩ := h
    rfl
  · obtain ⟨wide, v, p, m, xs, ahead, rfl, ⟨t, fl, rfl, ht, hfl⟩, hp, hM, hlen, hf, ok, okA, hx, q⟩ := h
    refine ⟨_, PSs.nox (pss_cons (ps_asg (pv 1) (pg_tup rfl (pgs_cons (pg_name (i := 3) scLawFieldDue.nd rfl (.inl rfl)) (pgs_cons (pg_name (i := 4) scLawFieldDue.nd rfl (.inl rfl)) (pgs_cons (pg_name (i := 5) scLawFieldDue.nd rfl (.inl rfl)) (pgs_cons (pg_name (i := 6) scLawFieldDue.nd rfl (.inl rfl)) pgs_nil))))))
      (pss_cons (ps_setLc (i := 7) (own := [("word", 8)]) (g := gName 8) rfl scLawFieldDue.nd rfl rfl (sw_true rfl rfl rfl (by decide +kernel)) (pi_list (pv 5)) (blkOk_by (N := ["is_wide", "field", "ahead", "name", "descriptor", "flags", "constant", "others", "word", "one"]) (sc := L2.defScope sLawFieldDue) (by decide +kernel)) (fun _ _ _ _ _ => pg_name (i := 8) scLawFieldDue.nd rfl (Or.inl rfl)) (fun _ _ _ _ _ => (pts_one (pt_cmpR (r := rIn K true) op_notIn_seq (pv 8) (pe_tup (pa_cons pe_str (pa_cons pe_str (pa_cons pe_str (pa_cons pe_str (pa_cons pe_str pa_nil)))))) rfl))) (fun _ _ _ _ _ => (pv 8)))
      (pss_cons (ps_if (PW.pt (pw_or (pt_cmpR (op_neD hr.units) (pv 7) (pe_lst pa_nil) (nomark _)) (pw_or1 (pt_cmpR op_gt (pe_cl c_law_accesses hr (by decide) (by rfl) (pa_cons (pv 5) pa_nil)) pe_int (nomark _))))) (pss_one (ps_ret pe_str)) pss_nil)
      (pss_cons (ps_if (PW.pt (pw_and (pt_val (pv 0)) (pw_and1 (pt_cmpR (op_neD hr.units) (pe_callB cr_sortedS (by rfl) B.sorted (by decide +kernel) (pa_cons (pv 5) pa_nil)) (pe_lst (pa_cons pe_str (pa_cons pe_str (pa_cons pe_str pa_nil)))) (nomark _))))) (pss_one (ps_ret pe_str)) pss_nil)
      (pss_cons (ps_if (pt_cmpR (SD.op_neNil (Nat.lt_of_le_of_lt (Nat.le_add_right _ 64) hr.units)) (pe_lc (own := [("one", 9)]) (g := gName 9) rfl scLawFieldDue.nd (pi_list (pv 2)) (blkOk_by (N := ["is_wide", "field", "ahead", "name", "descriptor", "flags", "constant", "others", "word", "one"]) (sc := L2.defScope sLawFieldDue) (by decide +kernel)) (fun _ _ _ _ _ => pg_name (i := 9) scLawFieldDue.nd rfl (Or.inl rfl)) (fun _ _ _ _ _ => (pts_one (pt_cmpR (r := rEqD K) (op_eqD hr.units) (pe_slice (r := rSlT K) sl_tup (pv 9) po_none (po_some pe_int)) (pe_slice (r := rSlT K) sl_tup (pv 1) po_none (po_some pe_int)) (nomark _)))) (fun _ _ _ _ _ => (pv 9))) (pe_lst pa_nil) (nomark _)) (pss_one (ps_ret pe_str)) pss_nil)
      (pss_cons (ps_if (PW.pt (pw_and (pt_cmpR op_notN (pv 6) pe_non (nomark _)) (pw_and1 (PW.pt (pw_or (pt_cmpR op_notIn_seq pe_str (pv 5) rfl) (pw_or1 (pt_not (pt_val (pe_cl c_law_fits hr (by decide) (by rfl) (pa_cons (pv 4) (pa_cons (pv 6) pa_nil))))))))))) (pss_one (ps_ret pe_str)) pss_nil)
      (pss_one (ps_ret pe_non)))))))), ?_⟩
    have okw : ∀ x ∈ m.ws, PyData.strOk x = true := fun x hx => flags_ok x (hf.1 x hx)
    have okf : ∀ g : Str → Bool, ∀ x ∈ m.ws.filter g, PyData.strOk x = true := fun g x hx => okw x (List.mem_filter.mp hx).1
    have o0 : ∀ x ∈ ([] : List Str), PyData.strOk x = true := fun x hx => by cases hx
    have hl := hf.2.2
    refine ⟨.ref t, rfl, tup4 ht ?_⟩
    refine q_asgL (el_filt (ws := m.ws) (fun x => !decide (x ∈ five)) (ev_var rfl) hfl (by omega) (fun _ => rfl) (fun x H1 x1 _ => et_test (ev_is (ev_niU (xs := five.map V.str) (ev_var rfl) (eu_tup (vs := five.map V.str) (ea_cons ev_c (ea_cons ev_c (ea_cons ev_c (ea_cons ev_c (ea_cons ev_c ea_nil))))) (by decide)) rfl (flat_strs _)) (by rw [inV_strs]))) (fun x H1 x1 => ev_var rfl)) fun po H1 hpo x1 h1 => ?_
    refine q_when (b := !decide (m.ws.filter (fun x => !decide (x ∈ five)) = []) || decide (accN m.ws > 1)) (et_or (et_test (ev_neWv (bs := []) (ev_var rfl) h1 (el_lst ea_nil (by decide)) (okf _) o0)) fun _ => et_test (ev_is (ev_op (ev_call (ea_cons (ev_var rfl) ea_nil) fun H2 e2 Q' q' E' => ⟨fl, m.ws, rfl, (x1.trans e2) _ _ hfl, q'⟩) ev_c rv_I0) (bl_iff (by omega)))) (fun e H2 x2 => ?_) (fun e1 H2 x2 => ?_)
    · refine s_ret (v := optV (fieldDue wide m ahead)) (ev_is ev_c ?_) fun H3 x3 => q H3 ((x1.trans x2).trans x3)
      unfold fieldDue
      rw [if_pos e]; rfl
    have x12 := x1.trans x2
    refine q_when (b := wide && !decide (m.ws.Perm wide3)) (et_and (et_B (ev_var rfl)) fun _ => et_test ?_) (fun e H3 x3 => ?_) (fun e2 H3 x3 => ?_)
    · intro H3 x3 Q' q'
      refine rd_op (rd_cb (rd_cons (rd_ev (ev_var rfl) fun H4 x4 => rd_nil ?_)))
      refine ⟨fl, m.ws, rfl, sq_of ((x12.trans (x3.trans x4)) _ _ hfl), by omega, fun ys r hpm hs hr4 => ?_⟩
      refine rd_lst (rd_cons (rd_c (rd_cons (rd_c (rd_cons (rd_c (rd_nil ⟨by show 3 ≤ sizeLine; decide, fun r2 hr2 => ?_⟩)))))))
      have xx : Ex H4 (upd (upd H4 r (.lst (ys.map V.str))) r2 (.lst (wide3.map V.str))) := (Ex.new hr4).trans (Ex.new hr2)
      refine ⟨dW ys, dW wide3, dW_dp (sq_of ((Ex.new hr2) _ _ upd_same)), dW_dp (sq_of upd_same), dW_shaped fun x hx => okw x (hpm.mem_iff.mp hx), dW_shaped (by decide +kernel), ?_⟩
      rw [dW_eqv, wide_sorted hpm hs]
      exact q' _ (x4.trans xx)
    · refine s_ret (v := optV (fieldDue wide m ahead)) (ev_is ev_c ?_) fun H4 x4 => q H4 ((x12.trans x3).trans x4)
      unfold fieldDue
      rw [if_neg (by rw [e1]; decide), if_pos e]; rfl
    have x13 := x12.trans x3
    refine q_when (b := ahead.any fun o => same2 o m) (et_test ?_) (fun e H4 x4 => ?_) (fun e3 H4 x4 => ?_)
    · have hc := fun (σ2 : L2.St) (te : TE) (hv : σ2[2]? = some (some (.ref p))) (hw) (ht1) (he1) => el_lcL (K := K) (H := H3) (σ := σ2) (te := te) (t := tTest (tOp (rEqD K) (tSl (rSlT K) (tVar 9) tNoPart (tPart (tC (.int 2)))) (tSl (rSlT K) (tVar 1) tNoPart (tPart (tC (.int 2)))))) (tl := tVar 2) (a := p) (j := 9) (vs := [9]) (xs := xs) (fun i => (ahead[i]?).any fun o => same2 o m) (fun i => xs.getD i .non) (ev_var hv) (sq_of (x13 _ _ hp)) (by omega) hw ht1 he1
      refine ev_opLL (xs := given xs.length (fun i => (ahead[i]?).any fun o => same2 o m) fun i => xs.getD i .non) (ys := []) (z := .bl (ahead.any fun o => same2 o m)) (hc _ _ rfl (fun x => rfl) (fun i x H9 x9 hx => ?_) (fun i x H9 x9 hx _ => ?_)) (el_lst ea_nil (by decide)) ?_
      · obtain ⟨o, ho, hmem⟩ := hM.at hx
        obtain ⟨t2, fl2, rfl, ht2, hfl2⟩ := hmem
        rw [ho]
        refine et_test (ev_opUU (xs := [.str (S o.name), .str (S o.desc)]) (ys := [.str (S m.name), .str (S m.desc)]) (eu_pair (ev_var rfl) ((x13.trans x9) _ _ ht2)) (eu_pair (ev_var rfl) ((x13.trans x9) _ _ ht)) fun r1 r2 H10 h10 g10 _ => fun H11 e11 Q' q' => ?_)
        have oo := okA o (List.mem_of_getElem? ho)
        refine ⟨dP o.name o.desc, dP m.name m.desc, .tup (st_of (e11 _ _ h10)) (.cons (.str _) (.cons (.str _) .nil)), .tup (st_of (e11 _ _ g10)) (.cons (.str _) (.cons (.str _) .nil)), dP_shaped oo.1 oo.2, dP_shaped ok.1 ok.2, ?_⟩
        rw [dP_eqv]
        exact q' H11 (Ex.refl H11)
      · have e9 : xs.getD i .non = x := by rw [List.getD_eq_getElem?_getD, hx]; rfl
        rw [e9]
        exact ev_var rfl
      · intro r1 r2 H9 h9 g9 x9 H10 x10 Q' q'
        refine ⟨r1, r2, _, rfl, rfl, x10 _ _ h9, x10 _ _ g9, ?_⟩
        rw [given_empty, Bool.not_not, hM.len, any_at]
        exact q' H10 (Ex.refl H10)
    · refine s_ret (v := optV (fieldDue wide m ahead)) (ev_is ev_c ?_) fun H5 x5 => q H5 ((x13.trans x4).trans x5)
      unfold fieldDue
      rw [if_neg (by rw [e1]; decide), if_neg (by rw [e2]; decide), if_pos e]; rfl
    have x14 := x13.trans x4
    refine q_when (b := !decide (m.x = .non) && (!decide (("static" : Str) ∈ m.ws) || !fitsB (S m.desc) m.x)) (et_and (et_test fun H5 e Q' q' => ⟨m.x, rfl, rfl, q' H5 (Ex.refl H5)⟩) fun hn => et_or (et_test (ev_niW ev_c (ev_var rfl) (x14 _ _ hfl))) fun _ => et_not (et_test (ev_call (ea_cons (ev_var rfl) (ea_cons (ev_var rfl) ea_nil)) fun H5 e5 Q' q' E' => ⟨S m.desc, m.x, rfl, ?_, q'⟩))) (fun e H5 x5 => ?_) (fun e4 H5 x5 => ?_)
    · rcases hx with h | h
      · rw [h] at hn; simp at hn
      · exact h
    · refine s_ret (v := optV (fieldDue wide m ahead)) (ev_is ev_c ?_) fun H6 x6 => q H6 ((x14.trans x5).trans x6)
      unfold fieldDue
      rw [if_neg (by rw [e1]; decide), if_neg (by rw [e2]; decide), if_neg (by rw [e3]; decide), if_pos e]; rfl
    · refine s_ret (v := optV (fieldDue wide m ahead)) (ev_is ev_c ?_) fun H6 x6 => q H6 ((x14.trans x5).trans x6)
      unfold fieldDue
      rw [if_neg (by rw [e1]; decide), if_neg (by rw [e2]; decide), if_neg (by rw [e3]; decide), if_neg (by rw [e4]; decide)]; rfl
end
end N8

set_option maxHeartbeats 2000000
namespace N8
open PySem PySem.Spec PyProof.Rows L2 Evl
open SX (S)
abbrev sLawClassDue : Stmt := topS 106
theorem scLawClassDue : FnScope ["plan", "name", "parent", "faces", "flags", "fields", "methods", "others", "k", "word"] ["plan"] (L2.defScope sLawClassDue) := ⟨rfl, rfl, rfl, by decide +kernel, rfl, by decide +kernel, by decide +kernel⟩

/-! ### what is wrong with a class -/
def four : List Str := ["public", "final", "abstract", "interface"]
/-- the first interface that is named ahead, from i on -/
def twiceAt (fs : List (List Nat)) : Nat → Nat → Option Nat
  | 0, _ => none
  | n + 1, i => if decide (N8.vs (fs.getD i []) ∈ (fs.take i).map N8.vs) = true then some i else twiceAt fs n (i + 1)
def classDue (d : CD) : Option (Str × Int) :=
  if (!decide (d.ws.filter (fun x => !decide (x ∈ four)) = []) || ((decide (("final" : Str) ∈ d.ws) && decide (("abstract" : Str) ∈ d.ws)) || (decide (("interface" : Str) ∈ d.ws) && !decide (("abstract" : Str) ∈ d.ws)))) = true then some ("flags", -1)
  else if (!decide (V.bl (decide (parV d.parent = .non)) = V.bl (decide (N8.vs d.name = .str "Object"))) || (decide (("interface" : Str) ∈ d.ws) && !decide (parV d.parent = .str "Object"))) = true then some ("parent", -1)
  else (twiceAt d.faces d.faces.length 0).map fun k => ("interfaces", (k : Int))
def RetDue (o : Option (Str × Int)) (H : Hp) (Q : VK) : Prop := match o with
  | none => ∀ H', Ex H H' → Q .non H'
  | some (w, k) => ∀ q H', H q = none → Ex H H' → H' q = some (.tup [.str w, .str "class", .int k]) → Q (.ref q) H'
/-- the plan at t: the six parts, the methods apart -/
def PlanAt (H : Hp) (v : V) (d : CD) : Prop := ∃ t pi pw pf pm, v = .ref t ∧ H t = some (.tup [N8.vs d.name, parV d.parent, .ref pi, .ref pw, .ref pf, .ref pm]) ∧ H pi = some (.lst (d.faces.map N8.vs)) ∧ H pw = some (.lst (d.ws.map V.str))
def spClassDue : Sp := fun vs H Q _ => ∃ (v : V) (d : CD), vs = [v] ∧ PlanAt H v d ∧ Flags d.ws ∧ d.faces.length ≤ 100 ∧ RetDue (classDue d) H Q
theorem inV_vs (l : List Nat) (fs : List (List Nat)) : inV (N8.vs l) (fs.map N8.vs) = decide (N8.vs l ∈ fs.map N8.vs) := by
  have e : fs.map N8.vs = (fs.map S).map V.str := by rw [List.map_map]; rfl
  rw [e]
  show inV (.str (S l)) _ = _
  rw [inV_strs]
  refine decide_eq_decide.mpr ⟨fun h => List.mem_map.mpr ⟨_, h, rfl⟩, fun h => ?_⟩
  obtain ⟨z, hz, ez⟩ := List.mem_map.mp h
  exact V.str.inj ez ▸ hz
theorem flat_vs (fs : List (List Nat)) : (fs.map N8.vs).all flatV = true := by
  rw [List.all_map]
  exact List.all_eq_true.mpr fun _ _ => rfl
theorem tup6 {K : PySem.W.Frag} {σ : L2.St} {H : Hp} {t : Addr} {a b c d e f : V} (h : H t = some (.tup [a, b, c, d, e, f])) {i j k l m n : Nat} {Q : L2.St → Hp → Prop} (q : Q ((((((σ.set i (some a)).set j (some b)).set k (some c)).set l (some d)).set m (some e)).set n (some f)) H) :
    gTup K 6 (gCons (gName i) (gCons (gName j) (gCons (gName k) (gCons (gName l) (gCons (gName m) (gCons (gName n) gNil)))))) (.ref t) σ H Q := ⟨t, _, rfl, st_of h, rfl, _, _, rfl, _, _, rfl, _, _, rfl, _, _, rfl, _, _, rfl, _, _, rfl, rfl, q⟩
section
variable {P : Program} {w : World} {K : PySem.W.Frag} {mg : Str → Option Value} {base : Heap}
theorem ok_classDue {f : Addr} {fd : FuncData} (F : FnP K "_law_class_due" sLawClassDue f fd) (B : Bt mg) : FnOk P w K mg base L2.CX0 1 f fd ["plan"] spClassDue := by
  refine F.ok scLawClassDue (fun vs H Q E h => ?_) (fun cdv A outer s H vs Q E hr h => ?_)
  · obtain ⟨v, d, rfl, _⟩ := h
    rfl
  · obtain ⟨v, d, rfl, ⟨t, pi, pw, pf, pm, rfl, ht, hpi, hpw⟩, hf, hlen, q⟩ := h
    refine ⟨_, PSs.nox (pss_cons (ps_asg (pv 0) (pg_tup rfl (pgs_cons (pg_name (i := 1) scLawClassDue.nd rfl (.inl rfl)) (pgs_cons (pg_name (i := 2) scLawClassDue.nd rfl (.inl rfl)) (pgs_cons (pg_name (i := 3) scLawClassDue.nd rfl (.inl rfl)) (pgs_cons (pg_name (i := 4) scLawClassDue.nd rfl (.inl rfl)) (pgs_cons (pg_name (i := 5) scLawClassDue.nd rfl (.inl rfl)) (pgs_cons (pg_name (i := 6) scLawClassDue.nd rfl (.inl rfl)) pgs_nil))))))))
      (pss_cons (ps_setLc (i := 7) (own := [("word", 9)]) (g := gName 9) rfl scLawClassDue.nd rfl rfl (sw_true rfl rfl rfl (by decide +kernel)) (pi_list (pv 4)) (blkOk_by (N := ["plan", "name", "parent", "faces", "flags", "fields", "methods", "others", "k", "word"]) (sc := L2.defScope sLawClassDue) (by decide +kernel)) (fun _ _ _ _ _ => pg_name (i := 9) scLawClassDue.nd rfl (Or.inl rfl)) (fun _ _ _ _ _ => (pts_one (pt_cmpR (r := rIn K true) op_notIn_seq (pv 9) (pe_tup (pa_cons pe_str (pa_cons pe_str (pa_cons pe_str (pa_cons pe_str pa_nil))))) rfl))) (fun _ _ _ _ _ => (pv 9)))
      (pss_cons (ps_if (PW.pt (pw_or (pt_cmpR (op_neD hr.units) (pv 7) (pe_lst pa_nil) (nomark _)) (pw_or (PW.pt (pw_and (pt_cmpR op_in_seq pe_str (pv 4) rfl) (pw_and1 (pt_cmpR op_in_seq pe_str (pv 4) rfl)))) (pw_or1 (PW.pt (pw_and (pt_cmpR op_in_seq pe_str (pv 4) rfl) (pw_and1 (pt_cmpR op_notIn_seq pe_str (pv 4) rfl)))))))) (pss_one (ps_ret (pe_tup (pa_cons pe_str (pa_cons pe_str (pa_cons (pe_un un_neg pe_int) pa_nil)))))) pss_nil)
      (pss_cons (ps_if (PW.pt (pw_or (pt_cmpR op_ne (pe_cmpR op_isN (pv 2) pe_non (nomark _)) (pe_cmpR op_eq (pv 1) pe_str (nomark _)) (nomark _)) (pw_or1 (PW.pt (pw_and (pt_cmpR op_in_seq pe_str (pv 4) rfl) (pw_and1 (pt_cmpR op_ne (pv 2) pe_str (nomark _)))))))) (pss_one (ps_ret (pe_tup (pa_cons pe_str (pa_cons pe_str (pa_cons (pe_un un_neg pe_int) pa_nil)))))) pss_nil)
      (pss_cons (ps_for PassesOwn.never rfl (pi_range1 (by rfl) B.range (pa_cons (pe_callB call_len_seq (by rfl) B.len PySem.boot_len (pa_cons (pv 3) pa_nil)) pa_nil)) (pg_name (i := 8) scLawClassDue.nd rfl (.inl rfl)) (pss_one (ps_if (pt_cmpR op_in_seq (pe_ix ix_list (pv 3) (pv 8) (fun _ _ => rfl)) (pe_slice sl_list (pv 3) po_none (po_some (pv 8))) rfl) (pss_one (ps_ret (pe_tup (pa_cons pe_str (pa_cons pe_str (pa_cons (pv 8) pa_nil)))))) pss_nil)))
      (pss_one (ps_ret pe_non))))))), ?_⟩
    have okw : ∀ x ∈ d.ws, PyData.strOk x = true := fun x hx => flags_ok x (hf.1 x hx)
    have okf : ∀ g : Str → Bool, ∀ x ∈ d.ws.filter g, PyData.strOk x = true := fun g x hx => okw x (List.mem_filter.mp hx).1
    have o0 : ∀ x ∈ ([] : List Str), PyData.strOk x = true := fun x hx => by cases hx
    have hl := hf.2.2
    refine ⟨.ref t, rfl, tup6 ht ?_⟩
    refine q_asgL (el_filt (ws := d.ws) (fun x => !decide (x ∈ four)) (ev_var rfl) hpw (by omega) (fun _ => rfl) (fun x H1 x1 _ => et_test (ev_is (ev_niU (xs := four.map V.str) (ev_var rfl) (eu_tup (vs := four.map V.str) (ea_cons ev_c (ea_cons ev_c (ea_cons ev_c (ea_cons ev_c ea_nil)))) (by decide)) rfl (flat_strs _)) (by rw [inV_strs]))) (fun x H1 x1 => ev_var rfl)) fun po H1 hpo x1 h1 => ?_
    refine q_when (b := !decide (d.ws.filter (fun x => !decide (x ∈ four)) = []) || ((decide (("final" : Str) ∈ d.ws) && decide (("abstract" : Str) ∈ d.ws)) || (decide (("interface" : Str) ∈ d.ws) && !decide (("abstract" : Str) ∈ d.ws)))) (et_or (et_test (ev_neWv (bs := []) (ev_var rfl) h1 (el_lst ea_nil (by decide)) (okf _) o0)) fun _ => et_or (et_and (et_test (ev_inW ev_c (ev_var rfl) (x1 _ _ hpw))) fun _ => et_test (ev_inW ev_c (ev_var rfl) (x1 _ _ hpw))) fun _ => et_and (et_test (ev_inW ev_c (ev_var rfl) (x1 _ _ hpw))) fun _ => et_test (ev_niW ev_c (ev_var rfl) (x1 _ _ hpw))) (fun e H2 x2 => ?_) (fun e1 H2 x2 => ?_)
    · have e9 : classDue d = some (("flags" : Str), (-1 : Int)) := by unfold classDue; rw [if_pos e]
      rw [e9] at q
      exact s_retU (eu_tup (vs := [.str "flags", .str "class", .int (-1)]) (ea_cons ev_c (ea_cons ev_c (ea_cons (ev_un ev_c ru_neg) ea_nil))) (by show 3 ≤ 100000; decide)) fun r H3 hr3 x3 h3 => q r H3 (fresh_back (x1.trans x2) hr3) ((x1.trans x2).trans x3) h3
    have x12 := x1.trans x2
    have hsc : scal (parV d.parent) (.str "Object") = true := by cases d.parent <;> rfl
    refine q_when (b := !decide (V.bl (decide (parV d.parent = .non)) = V.bl (decide (N8.vs d.name = .str "Object"))) || (decide (("interface" : Str) ∈ d.ws) && !decide (parV d.parent = .str "Object"))) (et_or (et_test (ev_op (x := .bl (decide (parV d.parent = .non))) (y := .bl (decide (N8.vs d.name = .str "Object"))) (fun H3 e Q' q' => ⟨_, rfl, rfl, q' H3 (Ex.refl H3)⟩) (ev_op (ev_var rfl) ev_c (rv_eq rfl)) (rv_ne rfl))) fun _ => et_and (et_test (ev_inW ev_c (ev_var rfl) (x12 _ _ hpw))) fun _ => et_test (ev_op (ev_var rfl) ev_c (rv_ne hsc))) (fun e H3 x3 => ?_) (fun e2 H3 x3 => ?_)
    · have e9 : classDue d = some (("parent" : Str), (-1 : Int)) := by unfold classDue; rw [if_neg (by rw [e1]; decide), if_pos e]
      rw [e9] at q
      exact s_retU (eu_tup (vs := [.str "parent", .str "class", .int (-1)]) (ea_cons ev_c (ea_cons ev_c (ea_cons (ev_un ev_c ru_neg) ea_nil))) (by show 3 ≤ 100000; decide)) fun r H4 hr4 x4 h4 => q r H4 (fresh_back (x12.trans x3) hr4) ((x12.trans x3).trans x4) h4
    have x13 := x12.trans x3
    have e9 : classDue d = (twiceAt d.faces d.faces.length 0).map fun k => (("interfaces" : Str), (k : Int)) := by unfold classDue; rw [if_neg (by rw [e1]; decide), if_neg (by rw [e2]; decide)]
    rw [e9] at q
    refine q_forR1 (n := (d.faces.length : Int)) (ea_cons (ev_is (ev_lenLst (ev_var rfl) (x13 _ _ hpi)) (by rw [List.length_map])) ea_nil) (by omega) (fun i σ' H' => Ex H3 H' ∧ twiceAt d.faces d.faces.length 0 = twiceAt d.faces (d.faces.length - i) i ∧ i ≤ d.faces.length ∧ ∃ v8 v9, σ' = [some (.ref t), some (N8.vs d.name), some (parV d.parent), some (.ref pi), some (.ref pw), some (.ref pf), some (.ref pm), some (.ref po), v8, v9])
      (fun H4 x4 => ⟨x4, rfl, Nat.zero_le _, none, none, rfl⟩) (fun i σ' H4 hi hP => ?_) (fun σ' H4 hP => ?_)
    · obtain ⟨x4, et, hi2, v8, v9, rfl⟩ := hP
      have hlt : i < d.faces.length := by omega
      have hg : d.faces[i]? = some (d.faces.getD i []) := by rw [List.getD_eq_getElem?_getD, List.getElem?_eq_getElem hlt]; rfl
      have hix : atI (d.faces.map N8.vs) (i : Int) = some (N8.vs (d.faces.getD i [])) := atI_nat (by rw [List.getElem?_map, hg]; rfl)
      have x14 := x13.trans x4
      have hcut : cutV (d.faces.map N8.vs) none (some (i : Int)) = (d.faces.take i).map N8.vs := by
        unfold cutV
        rw [HT.sIx_none, HT.sIx_nat, List.length_map, Nat.min_eq_left (Nat.le_of_lt hlt), List.drop_zero, Nat.sub_zero, List.map_take]
      have et2 : twiceAt d.faces (d.faces.length - i) i = if decide (N8.vs (d.faces.getD i []) ∈ (d.faces.take i).map N8.vs) = true then some i else twiceAt d.faces (d.faces.length - (i + 1)) (i + 1) := by
        obtain ⟨n, hn⟩ : ∃ n, d.faces.length - i = n + 1 := ⟨d.faces.length - i - 1, by omega⟩
        rw [hn, show d.faces.length - (i + 1) = n by omega]; rfl
      refine s_when (b := decide (N8.vs (d.faces.getD i []) ∈ (d.faces.take i).map N8.vs)) (et_test (ev_opL (xs := (d.faces.take i).map N8.vs) (ev_op (ev_var rfl) (ev_var rfl) (rv_ixL (sq_of (x14 _ _ hpi)) hix)) ?_ fun r H5 h5 _ => rv_is (rv_isL (sq_of h5) rfl (flat_vs _)) (by rw [inV_vs]))) (fun e H5 x5 => ?_) (fun e H5 x5 => ⟨x4.trans x5, ?_, by omega, _, _, rfl⟩)
      · rw [← hcut]
        exact el_sl (lo := none) (hi := some (i : Int)) (ev_var rfl) eo_none (eo_some (ev_var rfl)) (sq_of (x14 _ _ hpi))
      · rw [et, et2, if_pos e] at q
        exact s_retU (eu_tup (vs := [.str "interfaces", .str "class", .int (i : Int)]) (ea_cons ev_c (ea_cons ev_c (ea_cons (ev_var rfl) ea_nil))) (by show 3 ≤ 100000; decide)) fun r H6 hr6 x6 h6 => q r H6 (fresh_back (x14.trans x5) hr6) ((x14.trans x5).trans x6) h6
      · rw [et, et2, if_neg (by rw [e]; decide)]
    · obtain ⟨x4, et, hi2, v8, v9, rfl⟩ := hP
      have e0 : twiceAt d.faces d.faces.length 0 = none := by
        rw [et, Int.toNat_natCast, Nat.sub_self]; rfl
      rw [e0] at q
      exact s_ret ev_c fun H5 x5 => q H5 ((x13.trans x4).trans x5)
end
end N8

set_option maxHeartbeats 2000000
namespace N8
open PySem PySem.Spec PyProof.Rows L2 Evl
open SX (S)
abbrev sLawMade : Stmt := topS 113
theorem scLawMade : FnScope ["plan", "methods", "method"] ["plan"] (L2.defScope sLawMade) := ⟨rfl, rfl, rfl, by decide +kernel, rfl, by decide +kernel, by decide +kernel⟩

/-- the class ClassFile, called -/
structure MkCF (P : Program) (w : World) (K : PySem.W.Frag) (mg : Str → Option Value) (base : Heap) : Prop where
  m : mg "ClassFile" = some (.ref (cl K "ClassFile"))
  ex : ∃ (f : Addr) (fd : FuncData), Mk K (cl K "ClassFile") f ∧ FnOk P w K mg base L2.CX0 10 f fd ["self", "name", "parent", "interfaces", "flags", "fields", "methods"] (spCFI K) ∧ Binds K fd ["self", "name", "parent", "interfaces", "flags", "fields", "methods"] []
theorem MkCF.pe {X : Cx} {j : Nat} {e : Expr} {es : List Expr} {ta : TA} {p pos : Pos} (M : MkCF X.prog X.w X.K X.mg X.base) (hr : Room j X.A) (hk : 11 ≤ j) (hg : Gl X "ClassFile") (ha : PA X (e :: es) ta)
    (he : starEach (e :: es) X.env = (false, eval e X.env) :: starEach es X.env := by rfl) (hpl : (backTo pos (starEach es X.env)).any (·.1) = false := by rfl) :
    PE X (.Call (.Name "ClassFile" p) (e :: es) [] pos) (tMake (cl X.K "ClassFile") (spCFI X.K) [] L2.E0 ta) := by
  obtain ⟨f, fd, mk, F, b⟩ := M.ex
  exact pe_make mk F (hr.mono hk) hg M.m b .nil L2.pass0 ha (by decide) he hpl
theorem ArgsAt.ex {K : PySem.W.Frag} {H H' : Hp} {d : CD} {vs : List V} (h : ArgsAt K H d vs) (e : Ex H H') : ArgsAt K H' d vs := by
  obtain ⟨pi, pw, pf, pm, xf, xm, h1, h2, h3, h4, h5, h6, h7, h8, h9, h10⟩ := h
  exact ⟨pi, pw, pf, pm, xf, xm, h1, e _ _ h2, e _ _ h3, e _ _ h4, h5.imp fun _ _ k => k.ex e, h6, e _ _ h7, h8.imp fun _ _ k => k.ex e, h9, fun m hm => (h10 m hm).ex e⟩
theorem FileAt.ex {K : PySem.W.Frag} {H H' : Hp} {a : Addr} {d : CD} (h : FileAt K H a d) (e : Ex H H') : FileAt K H' a d := by
  obtain ⟨dx, fs, h1, h2⟩ := h
  exact ⟨dx, fs, e _ _ h1, h2.ex e⟩
theorem made_end {K : PySem.W.Frag} {H1 : Hp} {Q : VK} {d : CD} {vs : List V} (hA : ArgsAt K H1 d vs) (ok : CDOk d) (q : ∀ x H2, Ex H1 H2 → H1 x = none → FileAt K H2 x d → Q (.ref x) H2) : ∀ x dx, H1 x = none → H1 dx = none → dx ≠ x →
    spCFI K (.ref x :: (vs ++ [])) (upd (upd H1 dx (.own x)) x (.ins (cl K "ClassFile") dx [])) (fun v H2 => v = .non ∧ Q (.ref x) H2) L2.E0 := by
  intro x dx hx hdx hne
  have e1 : Ex H1 (upd (upd H1 dx (.own x)) x (.ins (cl K "ClassFile") dx [])) := fun b o hb => by rw [upd_ne (ne_of_none hb hx), upd_ne (ne_of_none hb hdx)]; exact hb
  refine ⟨x, dx, d, vs ++ [], rfl, upd_same, by rw [List.append_nil]; exact hA.ex e1, ok, fun H' xa fa => ⟨rfl, q x H' (fun b o hb => ?_) hx fa⟩⟩
  exact xa b o (ne_of_none hb hx) (e1 b o hb)
theorem rd_make {K : PySem.W.Frag} {σ : L2.St} {H : Hp} {ta : TA} {Q : VK} (h : ta σ H fun vs H1 => ∀ x dx, H1 x = none → H1 dx = none → dx ≠ x → spCFI K (.ref x :: (vs ++ [])) (upd (upd H1 dx (.own x)) x (.ins (cl K "ClassFile") dx [])) (fun v H2 => v = .non ∧ Q (.ref x) H2) L2.E0) :
    tMake (cl K "ClassFile") (spCFI K) [] L2.E0 ta σ H Q := h
/-- a method with its number of places, as the law draws it -/
structure LM where
  m : Mem
  high : Int
  code : Bool
def LMAt (H : Hp) (v : V) (l : LM) : Prop := ∃ t fl, v = .ref t ∧ H t = some (.tup [.str (S l.m.name), .str (S l.m.desc), .ref fl, l.m.x, .int l.high]) ∧ H fl = some (.lst (l.m.ws.map V.str))
theorem LMAt.ex {H H' : Hp} {v : V} {l : LM} (h : LMAt H v l) (e : Ex H H') : LMAt H' v l := by
  obtain ⟨t, fl, h1, h2, h3⟩ := h
  exact ⟨t, fl, h1, e _ _ h2, e _ _ h3⟩
inductive Lms (R : V → LM → Prop) : List V → List LM → Prop where
  | nil : Lms R [] []
  | cons {v : V} {m : LM} {vs : List V} {ms : List LM} : R v m → Lms R vs ms → Lms R (v :: vs) (m :: ms)
theorem Lms.to {R : V → LM → Prop} {R' : V → Mem → Prop} : ∀ {vs ys : List V} {ms : List LM}, Lms R vs ms → ys.length = vs.length → (∀ (i : Nat) x y, vs[i]? = some x → ys[i]? = some y → ∀ m, R x m → R' y m.m) → Mems R' ys (ms.map (·.m))
  | [], [], _, .nil, _, _ => .nil
  | [], _ :: _, _, _, hl, _ => by cases hl
  | _ :: _, [], _, _, hl, _ => by cases hl
  | x :: vs, y :: ys, _, .cons h1 h2, hl, f => .cons (f 0 x y rfl rfl _ h1) (Lms.to h2 (Nat.succ.inj hl) fun i x' y' hx hy m hm => f (i + 1) x' y' (by simpa using hx) (by simpa using hy) m hm)
theorem Lms.imp {R R' : V → LM → Prop} {vs : List V} {ms : List LM} (h : Lms R vs ms) (f : ∀ v m, R v m → R' v m) : Lms R' vs ms := by
  induction h with
  | nil => exact .nil
  | cons h1 _ ih => exact .cons (f _ _ h1) ih
/-- the whole plan at t -/
def PlanF (K : PySem.W.Frag) (H : Hp) (v : V) (d : CD) (ls : List LM) : Prop := ∃ t pi pw pf pm xf xm, v = .ref t ∧ H t = some (.tup [N8.vs d.name, parV d.parent, .ref pi, .ref pw, .ref pf, .ref pm]) ∧ H pi = some (.lst (d.faces.map N8.vs)) ∧ H pw = some (.lst (d.ws.map V.str)) ∧
  H pf = some (.lst xf) ∧ Mems (MemAt H) xf d.fields ∧ xf.length ≤ 1000 ∧ H pm = some (.lst xm) ∧ Lms (LMAt H) xm ls ∧ xm.length ≤ 1000 ∧ d.methods = ls.map (·.m) ∧ ∀ m ∈ d.methods, CodeV K H m.x
def spMade (K : PySem.W.Frag) : Sp := fun vs H Q _ => ∃ (v : V) (d : CD) (ls : List LM), vs = [v] ∧ PlanF K H v d ls ∧ CDOk d ∧ ∀ x H2, Ex H H2 → H x = none → FileAt K H2 x d → Q (.ref x) H2
theorem MemAt.exl {H H' : Hp} {v : V} {m : Mem} {D : Addr} {l : List V} (hD : H D = some (.lst l)) (hf : ∀ t fl, v = .ref t → H t = some (.tup [.str (S m.name), .str (S m.desc), .ref fl, m.x]) → fl ≠ D) (e : Exa D H H') (h : MemAt H v m) : MemAt H' v m := by
  obtain ⟨t, fl, h1, h2, h3⟩ := h
  have n1 : t ≠ D := fun z => by rw [z, hD] at h2; cases h2
  exact ⟨t, fl, h1, e _ _ n1 h2, e _ _ (hf t fl h1 h2) h3⟩
end N8

set_option maxHeartbeats 2000000
namespace N8
open PySem PySem.Spec PyProof.Rows L2 Evl
open SX (S)
theorem Lms.get {R : V → LM → Prop} {vs : List V} {ms : List LM} (h : Lms R vs ms) {v : V} (hv : v ∈ vs) : ∃ m, R v m := by
  induction h with
  | nil => cases hv
  | cons h1 _ ih =>
    rcases List.mem_cons.mp hv with e | e
    · exact ⟨_, e ▸ h1⟩
    · exact ih e
section
variable {K : PySem.W.Frag} {σ : L2.St} {H H' : Hp} {te : TE}
/-- a[:4] of a tuple of five -/
theorem eu_cut4 {p : Addr} {a b c d e : V} (h : Ev te σ H (.ref p)) (hp : H p = some (.tup [a, b, c, d, e])) : EvU (tSl (rSlT K) te tNoPart (tPart (tC (.int 4)))) σ H [a, b, c, d] := fun H1 e Q q =>
  h H1 e _ fun H2 e2 => ⟨4, rfl, p, _, rfl, st_of ((e.trans e2) _ _ hp), (fun z => by cases z.2), fun r hr => q r _ (fresh_back e2 hr) (e2.trans (Ex.new hr)) upd_same⟩
end
section
variable {P : Program} {w : World} {K : PySem.W.Frag} {mg : Str → Option Value} {base : Heap}
theorem ok_lawMade {f : Addr} {fd : FuncData} (F : FnP K "_law_made" sLawMade f fd) (B : Bt mg) (m_ClassFile : MkCF P w K mg base) : FnOk P w K mg base L2.CX0 12 f fd ["plan"] (spMade K) := by
  refine F.ok scLawMade (fun vs H Q E h => ?_) (fun cdv A outer s H vs Q E hr h => ?_)
  · obtain ⟨v, d, ls, rfl, _⟩ := h
    rfl
  · obtain ⟨v, d, ls, rfl, ⟨t, pi, pw, pf, pm, xf, xm, rfl, ht, hpi, hpw, hpf, hxf, lf, hpm, hxm, lm, hd, hcv⟩, ok, q⟩ := h
    refine ⟨_, PSs.nox (pss_cons (ps_setLc (i := 1) (own := [("method", 2)]) (g := gName 2) (tt := tYes) rfl scLawMade.nd rfl rfl (sw_true rfl rfl rfl (by decide +kernel)) (pi_list (pe_ix ix_tup (pv 0) pe_int (fun _ _ => rfl))) (blkOk_by (N := ["plan", "methods", "method"]) (sc := L2.defScope sLawMade) (by decide +kernel)) (fun _ _ _ _ _ => pg_name (i := 2) scLawMade.nd rfl (Or.inl rfl)) (fun _ _ _ _ _ => pts_nil) (fun _ _ _ _ _ => (pe_slice (r := rSlT K) sl_tup (pv 2) po_none (po_some pe_int))))
      (pss_one (ps_ret (MkCF.pe m_ClassFile hr (by decide) (by rfl) (pa_cons (pe_ix ix_tup (pv 0) pe_int (fun _ _ => rfl)) (pa_cons (pe_ix ix_tup (pv 0) pe_int (fun _ _ => rfl)) (pa_cons (pe_ix ix_tup (pv 0) pe_int (fun _ _ => rfl)) (pa_cons (pe_ix ix_tup (pv 0) pe_int (fun _ _ => rfl)) (pa_cons (pe_ix ix_tup (pv 0) pe_int (fun _ _ => rfl)) (pa_cons (pv 1) pa_nil)))))))))), ?_⟩
    have ix : ∀ {σ' : L2.St} {H1 : Hp} {i : Int} {u : V}, σ'[0]? = some (some (.ref t)) → Ex H H1 → atI [N8.vs d.name, parV d.parent, .ref pi, .ref pw, .ref pf, .ref pm] i = some u → Ev (tOp (rIxT K) (tVar 0) (tC (.int i))) σ' H1 u := fun h0 x1 hi => ev_op (ev_var h0) ev_c (rv_ixT (st_of (x1 _ _ ht)) hi)
    refine q_asgAny (lc_each (K := K) (H := H) (σ := [some (.ref t), none, none]) (tl := tOp (rIxT K) (tVar 0) (tC (.int 5))) (te := tSl (rSlT K) (tVar 2) tNoPart (tPart (tC (.int 4)))) (g := gName 2) (vs := [2]) (xs := xm)
      (fun x y H2 => ∀ t0 a b c e h5, x = .ref t0 → H t0 = some (.tup [a, b, c, e, h5]) → ∃ u, y = .ref u ∧ H2 u = some (.tup [a, b, c, e])) (fun {x y H1 H2 D l} hD xa hP t0 a b c e h5 hx0 hx1 => ?_) (ix rfl (Ex.refl H) rfl) (sq_of hpm) (by omega) (fun x H1 hx e1 Q' hQ => ⟨rfl, ?_⟩) (fun Dl ys H1 hD e1 h1 hE => ?_))
    · obtain ⟨u, e1, e2⟩ := hP t0 a b c e h5 hx0 hx1
      exact ⟨u, e1, xa _ _ (fun z => by rw [z, hD] at e2; cases e2) e2⟩
    · obtain ⟨l, hl⟩ : ∃ l, LMAt H x l := hxm.get hx
      obtain ⟨t0, fl, rfl, h0, h3⟩ := hl
      refine eu_cut4 (ev_var rfl) (e1 _ _ h0) H1 (Ex.refl H1) _ fun r H2 hr e2 h2 => hQ (.ref r) H2 e2 fun t1 a b c e h5 ex he => ?_
      cases ex
      have := h0.symm.trans he
      simp only [Option.some.injEq, HO.tup.injEq, List.cons.injEq] at this
      obtain ⟨q1, q2, q3, q4, _⟩ := this
      exact ⟨r, rfl, by rw [← q1, ← q2, ← q3, ← q4]; exact h2⟩
    · have hms : Mems (MemAt H1) ys d.methods := by
        rw [hd]
        refine Lms.to hxm hE.1 fun i x y hx hy l hl => ?_
        obtain ⟨t0, fl, rfl, h0, h3⟩ := hl
        obtain ⟨u, ey, hu⟩ := hE.2 i _ y hx hy t0 _ _ _ _ _ rfl h0
        exact ⟨u, fl, ey, hu, e1 _ _ h3⟩
      refine rd_ret (rd_make (rd_cons (rd_ev (ix rfl e1 rfl) fun H2 x2 => rd_cons (rd_ev (ix rfl (e1.trans x2) rfl) fun H3 x3 => rd_cons (rd_ev (ix rfl ((e1.trans x2).trans x3) rfl) fun H4 x4 => rd_cons (rd_ev (ix rfl (((e1.trans x2).trans x3).trans x4) rfl) fun H5 x5 => rd_cons (rd_ev (ix rfl ((((e1.trans x2).trans x3).trans x4).trans x5) rfl) fun H6 x6 => rd_cons (rd_ev (ev_var rfl) fun H7 x7 => rd_nil ?_))))))))
      have y7 : Ex H1 H7 := ((((x2.trans x3).trans x4).trans x5).trans x6).trans x7
      have z7 := e1.trans y7
      refine made_end (d := d) ⟨pi, pw, pf, Dl, xf, ys, rfl, z7 _ _ hpi, z7 _ _ hpw, z7 _ _ hpf, hxf.imp fun _ _ k => k.ex z7, lf, y7 _ _ h1, hms.imp fun _ _ k => k.ex y7, by rw [hE.1]; exact lm, fun m hm => (hcv m hm).ex z7⟩ ok fun x H8 x8 hx8 fa => q x H8 (z7.trans x8) (fresh_back z7 hx8) fa
end
end N8

set_option maxHeartbeats 1000000
/-! A few tuples of texts in a set: in, add. -/
namespace SP
open PySem PySem.Spec PyProof.Rows L2
abbrev Tx (P : Program) (w : World) (g : Heap) (ks : List Str) (b : Addr) : Prop := IsTupleKey (strKind P w) g ks b
abbrev hh (P : Program) (w : World) (ks : List Str) : Int := tupleKeyHash (strKind P w) ks
theorem items_txt {P : Program} {w : World} {ks : List Str} {us : List Value} (q : ItemsAre (strKind P w) ks us) : ∀ u ∈ us, ∃ z t, u = Value.str z t := by
  induction q with
  | nil => exact fun _ hu => by cases hu
  | @cons z u0 zs us0 h1 _ ih =>
    intro u hu
    cases List.mem_cons.mp hu with
    | inl e =>
      obtain ⟨t, e2⟩ := Value.isStrOf_shape h1
      exact ⟨z, t, e.trans e2⟩
    | inr m => exact ih u m
section
variable {P : Program} {w : World} {A : Around} {E : Value → Shared → Prop} {s : Shared}
theorem cls_txt (n : Nat) (z : Str) (t : Tok) : ofAClassStatement n (.str z t) = pure false := by cases n <;> rfl
theorem val_txt (n : Nat) (z : Str) (t : Tok) : hashByValue n (.str z t) = pure false := by cases n <;> rfl
/-- a tuple of texts is of no class statement -/
theorem cls_tx {ks : List Str} {b : Addr} {Q : Bool → Shared → Prop} (q : Tx P w s.heap ks b) (k : Q false s) : wpAny (model P w) A (ofAClassStatement 8 (.ref b)) Q E s := by
  have ty := q.typeIs
  obtain ⟨ob, its, m, h1, _, h2, h3⟩ := q
  unfold ofAClassStatement
  refine wpAny_bind (wpAny_typeOf ty ?_)
  dsimp only
  simp only [show (("tuple" : String) == "tuple") = true from rfl, if_true, Bool.not_true, Bool.false_eq_true, if_false]
  try refine wpAny_bind (wpAny_pure ?_)
  try simp only [Bool.not_true, Bool.false_eq_true, if_false]
  refine wpAny_bind (wpAny_seqItems h1 h2 ?_)
  dsimp only
  refine wpAny_bind ?_
  show wpAny _ _ (forIn its _ _) _ _ s
  rw [← Array.forIn_toList]
  refine wpAny_forIn_list _ (fun left r s1 => r.1 = none ∧ s1 = s ∧ ∀ u ∈ left, ∃ z t, u = Value.str z t) _ (fun u left r s1 hi => ?_) (fun r s1 hi => ?_) _ _ ⟨rfl, rfl, items_txt h3⟩
  · obtain ⟨e1, rfl, e3⟩ := hi
    obtain ⟨z, t, rfl⟩ := e3 u List.mem_cons_self
    rw [cls_txt]
    refine wpAny_bind (wpAny_pure ?_)
    simp only [Bool.false_eq_true, if_false]
    exact wpAny_pure ⟨rfl, rfl, fun y hy => e3 y (List.mem_cons_of_mem _ hy)⟩
  · obtain ⟨r1, r2⟩ := r
    obtain ⟨e1, rfl, _⟩ := hi
    simp only at e1
    subst e1
    exact wpAny_pure k
/-- its hash is told by no value, if it has an item -/
theorem val_tx {ks : List Str} {b : Addr} {Q : Bool → Shared → Prop} (q : Tx P w s.heap ks b) (k : ∀ v, Q v s) : wpAny (model P w) A (hashByValue 8 (.ref b)) Q E s := by
  have ty := q.typeIs
  obtain ⟨ob, its, m, h1, _, h2, h3⟩ := q
  unfold hashByValue
  refine wpAny_bind (wpAny_specialOf ty F.slot_tuple_hash.lookup ?_)
  refine wpAny_bind (wpAny_seqItems h1 h2 ?_)
  refine wpAny_bind ?_
  show wpAny _ _ (forIn its _ _) _ _ s
  rw [← Array.forIn_toList]
  refine wpAny_forIn_list _ (fun left r s1 => s1 = s ∧ r.1 = none ∧ ∀ u ∈ left, ∃ z t, u = Value.str z t) _ (fun u left r s1 hi => ?_) (fun r s1 hi => ?_) _ _ ⟨rfl, rfl, items_txt h3⟩
  · obtain ⟨rfl, e1, e3⟩ := hi
    obtain ⟨z, t, rfl⟩ := e3 u List.mem_cons_self
    rw [val_txt]
    refine wpAny_bind (wpAny_pure ?_)
    simp only [Bool.not_false, if_true]
    exact wpAny_pure (wpAny_pure (k false))
  · obtain ⟨r1, r2⟩ := r
    obtain ⟨rfl, e1, _⟩ := hi
    simp only at e1
    subst e1
    exact wpAny_pure (k true)
/-- a search among such tuples shows nothing -/
theorem seen_tx {ks : List Str} {b : Addr} {Q : Bool → Shared → Prop} (q : Tx P w s.heap ks b) {us : List Value} (hu : ∀ u ∈ us, ∃ k2 c, u = Value.ref c ∧ Tx P w s.heap k2 c) (k : Q false s) :
    wpAny (model P w) A (searchCouldBeSeen (.ref b) us) Q E s := by
  unfold searchCouldBeSeen
  refine wpAny_bind ?_
  refine wpAny_forIn_list _ (fun left r s1 => r.1 = none ∧ s1 = s ∧ ∀ u ∈ left, ∃ k2 c, u = Value.ref c ∧ Tx P w s.heap k2 c) _ (fun u left r s1 hi => ?_) (fun r s1 hi => ?_) _ _ ⟨rfl, rfl, hu⟩
  · obtain ⟨e1, rfl, e3⟩ := hi
    obtain ⟨k2, c, rfl, qc⟩ := e3 u List.mem_cons_self
    have e4 := fun y hy => e3 y (List.mem_cons_of_mem _ hy)
    dsimp only
    by_cases same : (b == c || (carriedByValue (.ref b) && carriedByValue (.ref c))) = true
    · exact wp_if_pos same (wpAny_pure ⟨rfl, rfl, e4⟩)
    · refine wp_if_neg same (wpAny_bind (wpAny_eqIsQuiet_tuple q ?_))
      simp only [Bool.not_true, Bool.false_eq_true, if_false]
      refine wpAny_bind (wpAny_eqIsQuiet_tuple qc ?_)
      simp only [Bool.not_true, Bool.false_eq_true, if_false]
      refine wpAny_bind (cls_tx q ?_)
      simp only [Bool.false_eq_true, if_false]
      refine wpAny_bind (cls_tx qc ?_)
      simp only [Bool.false_eq_true, if_false]
      exact wpAny_pure ⟨rfl, rfl, e4⟩
  · obtain ⟨r1, r2⟩ := r
    obtain ⟨e1, rfl, _⟩ := hi
    simp only at e1
    subst e1
    exact wpAny_pure k
/-! ### the set -/
def lines (P : Program) (w : World) (L : List (Addr × List Str)) : List (Int × Value) := L.map fun e => (hh P w e.2, Value.ref e.1)
/-- at a stands a set of just these tuples, in the order of its table -/
structure Few (P : Program) (w : World) (g : Heap) (a : Addr) (L : List (Addr × List Str)) (xs : Array (Int × Value)) (ep : Nat) (t : SetTable) : Prop where
  at_ : ∃ ob, g.get? a = some ob ∧ ob.ExactSet ∧ ob.data = .set xs ep t
  row : xs.toList = lines P w L
  tab : TabOk t (L.map fun e => hh P w e.2)
  tx : ∀ e ∈ L, Tx P w g e.2 e.1
  four : L.length ≤ 4
variable {a : Addr} {L : List (Addr × List Str)} {xs : Array (Int × Value)} {ep : Nat} {t : SetTable}
theorem Few.num (F : Few P w s.heap a L xs ep t) : xs.size = L.length := by
  have e := congrArg List.length F.row
  rwa [Array.length_toList, show (lines P w L).length = L.length from List.length_map _] at e
theorem mask7 (F : Few P w s.heap a L xs ep t) : 7 ≤ t.mask := by
  rcases F.tab.mok with e | e | e <;> omega
theorem Few.ok (F : Few P w s.heap a L xs ep t) : t.fits xs.size = true := by
  have e1 := F.tab.sz
  have e2 := F.num
  have e3 := F.four
  have e4 := mask7 F
  rw [List.length_map] at e1
  show (t.place.size == xs.size && decide (t.place.size + t.dummies.size ≤ t.mask)) = true
  rw [F.tab.dm, Bool.and_eq_true, beq_iff_eq, decide_eq_true_eq]
  exact ⟨by omega, by show t.place.size + 0 ≤ t.mask; omega⟩
theorem Few.at_i (F : Few P w s.heap a L xs ep t) {i : Nat} {e : Addr × List Str} (q : L[i]? = some e) : xs[i]? = some (hh P w e.2, Value.ref e.1) := by
  rw [← Array.getElem?_toList, F.row, lines, List.getElem?_map, q]
  rfl
/-- the c-th step of the way of a hash -/
abbrev stp (t : SetTable) (n : Int) (c : Nat) : SetTable.Probe := nth t.mask (runAt t.mask (SetTable.bits n % (t.mask + 1)) (SetTable.bits n)) c
theorem stp_add (t : SetTable) (n : Int) (c q : Nat) : nth t.mask (stp t n c) q = stp t n (c + q) := (nth_add t.mask c _ q).symm
theorem nth_dum (m : Nat) : ∀ (n : Nat) (p : SetTable.Probe), p.dummy = none → (nth m p n).dummy = none
  | 0, _, q => q
  | n + 1, p, q => nth_dum m n (adv m p) (by unfold adv; split <;> exact q)
/-- the search, from the c-th step on -/
theorem seek (F : Few P w s.heap a L xs ep t) {x : Addr} {k : List Str} (qx : Tx P w s.heap k x) (hu : A.units < cLine) {b : Bool} {N : Nat} (n0 : N < 10 * SetTable.turns t.mask)
    (n1 : way t.mask (hh P w k) N ∉ t.place.toList) (n2 : ∀ c, c < N → way t.mask (hh P w k) c ∈ t.place.toList) {Q : SetFound → Shared → Prop}
    (yes : k ∈ L.map (·.2) → ∀ r : Option Nat, (b = false → r.isSome = true) → Q (.there r) s) (no : k ∉ L.map (·.2) → Q (.free (way t.mask (hh P w k) N) false) s) :
    ∀ (m c : Nat) (from_ : Option SetTable.Probe), from_.getD (t.probeStart (hh P w k)) = stp t (hh P w k) c → c ≤ N → N - c < m →
      (∀ (i : Nat) e, L[i]? = some e → e.2 = k → ∃ c2, c ≤ c2 ∧ c2 < N ∧ t.place.toList[i]? = some (way t.mask (hh P w k) c2)) → wpAny (model P w) A (setSearchFrom a (.ref x) (hh P w k) b m from_) Q E s := by
  obtain ⟨ob, o1, o2, o3⟩ := F.at_
  have sl : ∀ {i j : Nat}, t.place.toList[i]? = some j → t.slot j = .live i := fun z => slot_live F.tab.ris z
  intro m
  induction m with
  | zero => exact fun c _ _ _ z => absurd z (Nat.not_lt_zero _)
  | succ m ih =>
    intro c from_ hst hcN hm hre
    rw [setSearchFrom_succ]
    refine wpAny_bind (wpAny_setState_of o1 o3 F.ok ?_)
    dsimp only
    refine wp_if_neg (by unfold SetTable.gaveWay; rw [mask_odd F.tab.mok]; decide) ?_
    try refine wpAny_bind (wpAny_pure ?_)
    have ej : ∀ q, (nth t.mask (stp t (hh P w k) c) q).j = way t.mask (hh P w k) (c + q) := fun q => congrArg SetTable.Probe.j (stp_add t _ c q)
    have at_h : ∀ (i : Nat) e, L[i]? = some e → (xs[i]?.map (·.1)).getD 0 = hh P w e.2 := fun i e q => by rw [F.at_i q]; rfl
    rcases go_spec t F.tab.ris F.tab.dm (fun i => (xs[i]?.map (·.1)).getD 0) (hh P w k) (10 * SetTable.turns t.mask) (N - c) (stp t (hh P w k) c) (nth_dum _ _ _ rfl) (by omega) (fun q hq => by rw [ej]; exact n2 (c + q) (by omega))
      (by rw [ej, show c + (N - c) = N by omega]; exact n1) with ⟨q, i, hq, hi, hh1, hno, hpr⟩ | ⟨hno, hpr⟩
    · have pr : t.probe (fun i => (xs[i]?.map (·.1)).getD 0) (hh P w k) (from_.getD (t.probeStart (hh P w k))) = some (.candidate (way t.mask (hh P w k) (c + q)) i (stp t (hh P w k) (c + (q + 1)))) := by
        rw [hst, ← ej, ← stp_add]
        exact hpr
      rw [pr]
      dsimp only
      rw [ej] at hi
      have hil : i < L.length := by
        have z1 := (List.getElem?_eq_some_iff.mp hi).1
        have z2 := F.tab.sz
        rw [List.length_map] at z2
        rw [Array.length_toList] at z1
        omega
      obtain ⟨e, he⟩ : ∃ e, L[i]? = some e := ⟨_, List.getElem?_eq_getElem hil⟩
      have hmem := List.mem_of_getElem? he
      have after : wpAny (model P w) A (searchRest a (.ref x) (hh P w k) b m xs t (way t.mask (hh P w k) (c + q)) i (stp t (hh P w k) (c + (q + 1)))) Q E s := by
        unfold searchRest
        rw [F.at_i he]
        dsimp only
        refine wpAny_bind (wpAny_holding (wpAny_eqBool_tuple hu (F.tx e hmem) qx ?_))
        refine wpAny_bind (wpAny_setState_of o1 o3 F.ok ?_)
        dsimp only
        have stay : wpAny (model P w) A (isSame (.ref e.1) (.ref e.1)) (fun v s1 => v = true ∧ s1 = s) E s := wpAny_isSame_ref_self ⟨rfl, rfl⟩
        by_cases hk : e.2 = k
        · have hin : k ∈ L.map (·.2) := List.mem_map.mpr ⟨e, hmem, hk⟩
          cases b with
          | true =>
            refine wp_if_pos (by simp [hk]) ?_
            exact wpAny_pure (yes hin none (fun z => by cases z))
          | false =>
            refine wp_if_neg (by simp) ?_
            try refine wpAny_bind (wpAny_pure ?_)
            rw [sameMem]
            dsimp only
            simp only [if_true, sl hi, F.at_i he]
            refine wpAny_bind (wpAny_isSame_ref_self (wpAny_bind (wpAny_pure ?_)))
            simp only [if_true]
            refine wp_if_pos (by simp [hk]) ?_
            exact wpAny_pure (yes hin (some i) fun _ => rfl)
        · refine wp_if_neg (by simp [hk]) ?_
          try refine wpAny_bind (wpAny_pure ?_)
          rw [sameMem]
          dsimp only
          simp only [if_true, sl hi, F.at_i he]
          refine wpAny_bind (wpAny_isSame_ref_self (wpAny_bind (wpAny_pure ?_)))
          simp only [if_true]
          refine wp_if_neg (by simp [hk]) ?_
          refine ih (c + (q + 1)) _ rfl (by omega) (by omega) fun i2 e2 g1 g2 => ?_
          obtain ⟨c2, b1, b2, b3⟩ := hre i2 e2 g1 g2
          refine ⟨c2, ?_, b2, b3⟩
          have far : ¬ c2 < c + q := fun z => hno (c2 - c) i2 (by omega) (by rw [ej, show c + (c2 - c) = c2 by omega]; exact b3) ((at_h i2 e2 g1).trans (congrArg (hh P w) g2))
          have apart : c2 ≠ c + q := fun z => by
            rw [z] at b3
            have z1 := sl b3
            rw [sl hi] at z1
            injection z1 with z1
            rw [← z1, he] at g1
            exact hk ((congrArg Prod.snd (Option.some.inj g1)).trans g2)
          omega
      by_cases hl : t.led = true
      · refine wp_if_neg (by simp [hl]) ?_
        try refine wpAny_bind (wpAny_pure ?_)
        exact after
      · refine wp_if_pos (by simp [hl]) ?_
        refine wpAny_bind (seen_tx qx (fun u hu2 => ?_) ?_)
        · obtain ⟨y, hy, rfl⟩ := List.mem_map.mp hu2
          have y1 : y ∈ xs.toList := by
            have : y ∈ xs ∧ y.1 = hh P w k := by simpa using hy
            simpa using this.1
          rw [F.row] at y1
          obtain ⟨e2, h2, rfl⟩ := List.mem_map.mp y1
          exact ⟨e2.2, e2.1, rfl, F.tx e2 h2⟩
        · refine wp_if_neg (by decide) ?_
          try refine wpAny_bind (wpAny_pure ?_)
          exact after
    · have pr : t.probe (fun i => (xs[i]?.map (·.1)).getD 0) (hh P w k) (from_.getD (t.probeStart (hh P w k))) = some (.empty (way t.mask (hh P w k) N) none) := by
        have z : way t.mask (hh P w k) N = (nth t.mask (stp t (hh P w k) c) (N - c)).j := by rw [ej, show c + (N - c) = N by omega]
        rw [hst, z]
        exact hpr
      rw [pr]
      dsimp only
      refine wpAny_pure (no fun hm2 => ?_)
      obtain ⟨e, h0, hk⟩ := List.mem_map.mp hm2
      obtain ⟨i, hi, ei⟩ := List.getElem_of_mem h0
      have g1 : L[i]? = some e := by rw [List.getElem?_eq_getElem hi, ei]
      obtain ⟨c2, b1, b2, b3⟩ := hre i e g1 hk
      exact hno (c2 - c) i (by omega) (by rw [ej, show c + (c2 - c) = c2 by omega]; exact b3) ((at_h i e g1).trans (congrArg (hh P w) hk))
theorem look (F : Few P w s.heap a L xs ep t) {x : Addr} {k : List Str} (qx : Tx P w s.heap k x) (hu : A.units < cLine) {b : Bool} {Q : SetFound → Shared → Prop}
    (yes : k ∈ L.map (·.2) → ∀ r : Option Nat, (b = false → r.isSome = true) → Q (.there r) s)
    (no : ∀ N, k ∉ L.map (·.2) → way t.mask (hh P w k) N ∉ t.place.toList → (∀ c, c < N → way t.mask (hh P w k) c ∈ t.place.toList) → Q (.free (way t.mask (hh P w k) N) false) s) :
    wpAny (model P w) A (setSearch a (.ref x) (hh P w k) b) Q E s := by
  have l4 := F.four
  have l7 := mask7 F
  obtain ⟨N, n0, n1, n2⟩ := F.tab.first (by rw [List.length_map]; omega) (hh P w k)
  have big : N < 100000 := by
    have : 10 * SetTable.turns t.mask ≤ 1420 := by
      unfold SetTable.turns
      rcases F.tab.mok with e | e | e <;> omega
    omega
  refine seek F qx hu n0 n1 n2 yes (fun z => no N z n1 n2) 100000 0 none rfl (Nat.zero_le _) (by omega) fun i e g1 g2 => ?_
  have g3 : (L.map fun e => hh P w e.2)[i]? = some (hh P w k) := by rw [List.getElem?_map, g1, ← g2]; rfl
  have g4 : i < t.place.toList.length := by
    have z1 := (List.getElem?_eq_some_iff.mp g1).1
    have z2 := F.tab.sz
    rw [List.length_map] at z2
    rw [Array.length_toList]
    omega
  obtain ⟨c, d1, d2⟩ := F.tab.before n1 g3 (List.getElem?_eq_getElem g4)
  exact ⟨c, Nat.zero_le _, d1, by rw [List.getElem?_eq_getElem g4, d2]⟩
end
end SP

set_option maxHeartbeats 1000000
namespace SP
open PySem PySem.Spec PyProof.Rows L2
section
variable {P : Program} {w : World} {A : Around} {E : Value → Shared → Prop} {s : Shared} {a : Addr} {L : List (Addr × List Str)} {xs : Array (Int × Value)} {ep : Nat} {t : SetTable} {x : Addr} {k : List Str}
theorem Few.ty (F : Few P w s.heap a L xs ep t) : s.TypeIs (.ref a) "set" := by
  obtain ⟨ob, o1, o2, _⟩ := F.at_
  exact ⟨ob, o1, o2.1⟩
theorem find_eq (b : Addr) (v : Value) (n : Int) (m : Nat) : setFindIn b v n (m + 1) = (do
    let st ← setState b
    if byScan v st.1 then
      rule "set.find.by-scan"
      match ← setScan b v n false st.1 with
      | .found i => return some i
      | .absent => return none
      | .anew => return ← setFindIn b v n m
    match ← setSearch b v n with
    | .there i => return i
    | .free .. => return none) := by rfl
theorem find_few (F : Few P w s.heap a L xs ep t) (qx : Tx P w s.heap k x) (hu : A.units < cLine) {Q : Option Nat → Shared → Prop} (q : ∀ r : Option Nat, r.isSome = decide (k ∈ L.map (·.2)) → Q r s) : wpAny (model P w) A (setFind a (.ref x) (hh P w k)) Q E s := by
  obtain ⟨ob, o1, o2, o3⟩ := F.at_
  unfold setFind
  rw [show (100000 : Nat) = 99999 + 1 from rfl, find_eq]
  refine wpAny_bind (wpAny_setState_of o1 o3 F.ok ?_)
  dsimp only
  refine wp_if_neg (by simp [byScan, Value.scannable]) ?_
  try refine wpAny_bind (wpAny_pure ?_)
  refine wpAny_bind (look F qx hu (b := false) (fun hm r hr => ?_) fun N hm _ _ => ?_)
  · dsimp only
    exact wpAny_pure (q r (by rw [hr rfl, decide_eq_true hm]))
  · dsimp only
    exact wpAny_pure (q none (by rw [decide_eq_false hm]; rfl))
theorem in_few (F : Few P w s.heap a L xs ep t) (qx : Tx P w s.heap k x) (hu : A.units + 64 < cLine) {Q : Value → Shared → Prop} (q : Q (.bool (decide (k ∈ L.map (·.2)))) { s with toks := s.toks + (k.length + 1) }) :
    wpAny (model P w) A (compareOp .In (.ref x) (.ref a)) Q E s := by
  show wpAny _ _ (contains (.ref a) (.ref x) >>= fun v => pure (.bool v)) Q E s
  refine wpAny_bind ?_
  unfold contains
  try with_reducible refine wpAny_holding ?_
  refine wpAny_bind (wpAny_specialOf F.ty PySem.F.slot_set_contains.lookup ?_)
  have no : ¬ (some (Value.builtin "set.__contains__") == some Value.none) = true := by rw [beq_builtin_none]; decide
  refine wp_if_neg no ?_
  refine wpAny_bind (wpAny_callSpecialUnlessNone?_slot (name := Str.ofString "__contains__") F.ty PySem.F.slot_set_contains (wpAny_call_entry PySem.F.slot_set_contains F.ty entry_set_contains ?_ (PySem.F.args_set_contains_2 _ _)))
  unfold Builtin.«frozenset.__contains__» Builtin.Frozenset.oneOther
  simp only [List.isEmpty_nil, bind_assoc]
  unfold Builtin.Frozenset.addrOf Builtin.Frozenset.withSetAsKey setContains
  refine wpAny_bind (wpAny_pure ?_)
  try dsimp only
  refine wpAny_bind (wpAny_pure ?_)
  try dsimp only
  refine wpAny_bind (wpAny_tryCatch (wpAny_holding (wpAny_bind (wpAny_pyHash_tuple (A := A.in1) (by show A.units + 1 < cLine; omega) qx ?_))))
  refine wpAny_bind (find_few (A := A.in1) (s := { s with toks := s.toks + (k.length + 1) }) F qx (by show A.units + 1 < cLine; omega) fun r hr => wpAny_pure ?_)
  show wpAny _ _ (ret (Value.bool r.isSome)) _ _ _
  rw [hr]
  exact wpAny_pure ⟨_, rfl, wpAny_truthy_bool (wpAny_pure q)⟩
theorem add_few (F : Few P w s.heap a L xs ep t) (qx : Tx P w s.heap k x) (hu : A.units < cLine) (h4 : L.length + 1 ≤ 4) {Q : Bool → Shared → Prop}
    (q : ∀ v g L2 ys n t2, Heap.SameBut a s.heap g → Few P w g a L2 ys n t2 → (k ∈ L.map (·.2) → L2 = L) → (k ∉ L.map (·.2) → L2.Perm ((x, k) :: L)) → Q v { s with heap := g }) : wpAny (model P w) A (setAddHashed a (.ref x) (hh P w k)) Q E s := by
  obtain ⟨ob, o1, o2, o3⟩ := F.at_
  have l7 := mask7 F
  unfold setAddHashed
  refine wpAny_holding ?_
  rw [show (100000 : Nat) = 99999 + 1 from rfl, setAddHashedIn_succ]
  refine wpAny_bind (wpAny_setState_of o1 o3 F.ok ?_)
  dsimp only
  refine wp_if_neg (by simp [byScan, Value.scannable]) ?_
  try refine wpAny_bind (wpAny_pure ?_)
  refine wpAny_bind (look F qx hu (b := true) (fun hm r _ => ?_) fun N hm n1 n2 => ?_)
  · dsimp only
    exact wpAny_pure (q false s.heap L xs ep t (Heap.SameBut.refl a s.heap) F (fun _ => rfl) fun z => absurd hm z)
  · dsimp only
    refine wpAny_bind (wpAny_setState_of o1 o3 F.ok ?_)
    dsimp only
    obtain ⟨p1, p2, p3, p4, p5, p6, p7, p8, p9⟩ := F.tab.put n1 n2
    generalize hpt : t.put (way t.mask (hh P w k) N) = pt at p1 p3 p4 p5 p6 p7 p8 p9 ⊢
    obtain ⟨t1, i⟩ := pt
    dsimp only at p1 p3 p4 p5 p6 p7 p8 p9 ⊢
    subst p1
    generalize hi : SetTable.below t.place (way t.mask (hh P w k) N) = i at p2 p3 ⊢
    have in1 : (SetTable.insertAt xs i (hh P w k, Value.ref x)).toList = lines P w (L.take i ++ (x, k) :: L.drop i) := by
      rw [SetTable.toList_insertAt, F.row, lines, lines, List.map_append, List.map_cons, List.map_take, List.map_drop]
    have pm : (L.take i ++ (x, k) :: L.drop i).Perm ((x, k) :: L) := put_perm L i (x, k)
    have tb : TabOk t1 ((L.take i ++ (x, k) :: L.drop i).map fun e => hh P w e.2) := by
      rw [List.map_append, List.map_cons, List.map_take, List.map_drop]
      exact p3
    have num : (SetTable.insertAt xs i (hh P w k, Value.ref x)).size = L.length + 1 := by
      have e := congrArg List.length in1
      rwa [Array.length_toList, show (lines P w (L.take i ++ (x, k) :: L.drop i)).length = L.length + 1 from (List.length_map _).trans pm.length_eq] at e
    have done : ∀ t2 : SetTable, TabOk t2 ((L.take i ++ (x, k) :: L.drop i).map fun e => hh P w e.2) → t2.fill = L.length + 1 → t2.mask = t.mask → wpAny (model P w) A (do
        storeSet a (SetTable.insertAt xs i (hh P w k, Value.ref x)) t2
        if !false && t2.tooFull then setRelay a (SetTable.grown (xs.size + 1))
        return true) Q E s := by
      intro t2 tb2 f2 m2
      refine wpAny_bind (wpAny_storeSet_of o1 o3 ?_ (by rw [num, sizeLine_eq]; omega))
      have sb : Heap.SameBut a s.heap (s.heap.update a (Obj.putSet (SetTable.insertAt xs i (hh P w k, Value.ref x)) t2)) := Heap.SameBut.update ..
      have nf : t2.tooFull = false := by
        unfold SetTable.tooFull
        rw [f2, m2]
        exact decide_eq_false (by omega)
      first
        | refine wp_if_neg (by simp [nf]) ?_
        | (refine wpAny_bind ?_; refine wp_if_neg (by simp [nf]) ?_; refine wpAny_pure ?_)
      refine wpAny_pure (q true _ _ _ (ep + 1) t2 sb ⟨⟨_, store_at o1 o3, ⟨o2.1, o2.2.1, o2.2.2⟩, rfl⟩, in1, tb2, fun e he => ?_, by rw [pm.length_eq]; exact h4⟩ (fun z => absurd z hm) fun _ => pm)
      have old : ∀ {z : List Str} {b : Addr}, Tx P w s.heap z b → Tx P w (s.heap.update a (Obj.putSet (SetTable.insertAt xs i (hh P w k, Value.ref x)) t2)) z b := fun {z b} q => by
        obtain ⟨o, its, m, h1, h2, h3, h5⟩ := q
        refine ⟨o, its, m, (sb.2 b fun e => ?_).trans h1, h2, h3, h5⟩
        rw [e, o1] at h1
        rw [← Option.some.inj h1, o3] at h3
        exact nomatch h3
      rcases List.mem_cons.mp (pm.mem_iff.mp he) with rfl | he
      · exact old qx
      · exact old (F.tx e he)
    have fl : t1.fill = L.length + 1 := by rw [p9, List.length_map]
    by_cases pl : t1.plain = true
    · first
        | (refine wpAny_bind ?_; refine wp_if_pos pl ?_; refine val_tx qx fun v => ?_)
        | refine wp_if_pos pl (wpAny_bind (val_tx qx fun v => ?_))
      cases v with
      | true => exact done t1 tb fl p4
      | false => exact done { t1 with plain := false } ⟨tb.ris, tb.dm, tb.sz, tb.mok, tb.bd, tb.reach⟩ fl p4
    · first
        | (refine wpAny_bind ?_; refine wp_if_neg pl ?_; refine wpAny_pure ?_)
        | refine wp_if_neg pl (wpAny_bind (wpAny_pure ?_))
      exact done t1 tb fl p4
theorem call_add (F : Few P w s.heap a L xs ep t) (qx : Tx P w s.heap k x) (hu : A.units + 64 < cLine) (h4 : L.length + 1 ≤ 4) {Q : Value → Shared → Prop}
    (q : ∀ g L2 ys n t2, Heap.SameBut a s.heap g → Few P w g a L2 ys n t2 → (k ∈ L.map (·.2) → L2 = L) → (k ∉ L.map (·.2) → L2.Perm ((x, k) :: L)) → Q .none { s with heap := g, toks := s.toks + (k.length + 1) }) :
    wpAny (model P w) A (call (.builtin "set.add") [.ref a, .ref x]) Q E s := by
  refine wpAny_call_entry PySem.F.slot_set_add F.ty PySem.F.entry_set_add ?_ (PySem.F.args_set_add_2 _ _)
  unfold Builtin.«set.add» Builtin.Frozenset.oneOther
  simp only [List.isEmpty_nil, bind_assoc]
  unfold Builtin.Frozenset.addrOf setAdd
  refine wpAny_bind (wpAny_pure ?_)
  try dsimp only
  refine wpAny_bind (wpAny_pure ?_)
  try dsimp only
  refine wpAny_bind (wpAny_holding (wpAny_bind (wpAny_pyHash_tuple (A := A.in1) (by show A.units + 1 < cLine; omega) qx ?_)))
  refine add_few (A := A.in1) (s := { s with toks := s.toks + (k.length + 1) }) F qx (by show A.units + 1 < cLine; omega) h4 fun v g L2 ys n t2 z1 z2 z3 z4 => ?_
  show wpAny _ _ (ret Value.none) _ _ _
  exact wpAny_pure ⟨_, rfl, q g L2 ys n t2 z1 z2 z3 z4⟩
end
/-! ### over the layer -/
/-- what of it hangs on the set's own object alone -/
structure Few0 (P : Program) (w : World) (g : Heap) (a : Addr) (L : List (Addr × List Str)) : Prop where
  ex : ∃ xs ep t, (∃ ob, g.get? a = some ob ∧ ob.ExactSet ∧ ob.data = .set xs ep t) ∧ xs.toList = lines P w L ∧ TabOk t (L.map fun e => hh P w e.2)
  four : L.length ≤ 4
theorem Few.zero {P : Program} {w : World} {g : Heap} {a : Addr} {L : List (Addr × List Str)} {xs : Array (Int × Value)} {ep : Nat} {t : SetTable} (F : Few P w g a L xs ep t) : Few0 P w g a L := ⟨⟨xs, ep, t, F.at_, F.row, F.tab⟩, F.four⟩
/-- the set of the tuples of L, in any order -/
def SetP (P : Program) (w : World) (a : Addr) (L : List (Addr × List Str)) : HO := .ext fun g => ∃ L1, L1.Perm L ∧ Few0 P w g a L1
theorem setP_new {P : Program} {w : World} {H : Hp} {g : Heap} {a : Addr} {L L1 : List (Addr × List Str)} (pm : L1.Perm L) (F : Few0 P w g a L1) : ObjOk P w H g a (SetP P w a L) := by
  obtain ⟨⟨xs, ep, t, ⟨ob, o1, o2⟩, r⟩, f⟩ := F
  refine ⟨⟨L1, pm, ⟨xs, ep, t, ⟨ob, o1, o2⟩, r⟩, f⟩, ⟨ob, o1⟩, fun g1 g2 q st => ?_⟩
  obtain ⟨L3, pm3, ⟨⟨xs, ep, t, ⟨ob, o1, o2⟩, r⟩, f⟩⟩ := q
  exact ⟨L3, pm3, ⟨⟨xs, ep, t, ⟨ob, st _ o1, o2⟩, r⟩, f⟩⟩
theorem items_vals {P : Program} {w : World} : ∀ {ks : List Str} {us : List Value}, Vals (ks.map V.str) us → ItemsAre (strKind P w) ks us
  | [], _, .nil => .nil
  | z :: ks, _, .cons r rs => by
    obtain ⟨t, rfl⟩ := r
    exact .cons (strKind_is P w z t) (items_vals rs)
section
variable {X : Cx} {pins : List (Addr × Obj)} {σ : L2.St} {H : Hp} {s : Shared}
theorem tx_of (I : Inv X pins σ H s) {b : Addr} {ks : List Str} (q : SqT X.K H b (ks.map V.str)) : Tx X.prog X.w s.heap ks b := by
  obtain ⟨its, r, ⟨o, o1, o2, n, o3⟩, _⟩ := I.tuple q
  exact ⟨o, its.toArray, n, o1, o2, o3, by simpa using items_vals r⟩
theorem set_at (I : Inv X pins σ H s) {a : Addr} {L : List (Addr × List Str)} (ha : H a = some (SetP X.prog X.w a L)) (ht : ∀ e ∈ L, SqT X.K H e.1 (e.2.map V.str)) : ∃ L1 xs ep t, L1.Perm L ∧ Few X.prog X.w s.heap a L1 xs ep t := by
  obtain ⟨L1, pm, ⟨xs, ep, t, r1, r2, r3⟩, f⟩ := (I.hok a _ ha).1
  exact ⟨L1, xs, ep, t, pm, r1, r2, r3, fun e he => tx_of I (ht e (pm.mem_iff.mp he)), f⟩
/-- set() -/
def rNoneP (P : Program) (w : World) : List V → Hp → VK → Prop := fun xs H Q => xs = [] ∧ ∀ p, H p = none → Q (.ref p) (upd H p (SetP P w p []))
theorem cr_noneP : CallR X (.type "set") (rNoneP X.prog X.w) := by
  intro pins s σ H xs us Q I r h
  obtain ⟨rfl, q⟩ := h
  cases r
  refine setR_new fun _ => ?_
  have new : Few0 X.prog X.w (s.heap.push { cls := .type "set", dict := none, data := .set #[] 0 (.fresh 0 0 (!X.w.params.followText "set-order")) }) s.heap.objs.size [] :=
    ⟨⟨#[], 0, _, ⟨_, Heap.get?_push_size _ rfl, ⟨rfl, rfl, rfl⟩, rfl⟩, rfl, ⟨List.Pairwise.nil, rfl, rfl, .inl rfl, fun x hx => (by cases hx), fun i h j hi => (by simp at hi)⟩⟩, by decide⟩
  exact ⟨.ref _, _, I.laid (t' := s.toks) (fun b u e => Heap.get?_push_of_some _ e) (Nat.le_refl _) (setP_new (List.Perm.refl _) new), rfl, q _ (I.hok.fresh (Nat.le_refl _))⟩
/-- t in found -/
def rInP (K : PySem.W.Frag) (P : Program) (w : World) : R2 := fun x y H Q => ∃ (p a : Addr) (ks : List Str) (L : List (Addr × List Str)), x = .ref p ∧ y = .ref a ∧ SqT K H p (ks.map V.str) ∧ H a = some (SetP P w a L) ∧ (∀ e ∈ L, SqT K H e.1 (e.2.map V.str)) ∧ Q (.bl (decide (ks ∈ L.map (·.2)))) H
theorem op_inP (hu : X.A.units + 64 < cLine) : OpR X (compareOp .In) (rInP X.K X.prog X.w) := by
  intro pins s σ H x y v u Q I rx ry h
  obtain ⟨p, a, ks, L, rfl, rfl, hp, ha, ht, q⟩ := h
  cases rx
  cases ry
  obtain ⟨L1, xs, ep, t, pm, F⟩ := set_at I ha ht
  have e : decide (ks ∈ L1.map (·.2)) = decide (ks ∈ L.map (·.2)) := decide_eq_decide.mpr (pm.map (·.2)).mem_iff
  exact in_few F (tx_of I hp) hu ⟨.bl (decide (ks ∈ L.map (·.2))), H, I.tok _, by rw [e]; rfl, q⟩
/-- found.add(t) -/
def tAddP (K : PySem.W.Frag) (P : Program) (w : World) (to te : TE) : TE := fun σ H Q => to σ H fun x H1 => (∃ a L, x = V.ref a ∧ H1 a = some (SetP P w a L)) ∧ te σ H1 fun y H2 => ∃ (a p : Addr) (ks : List Str) (L : List (Addr × List Str)), x = .ref a ∧ y = .ref p ∧ SqT K H2 p (ks.map V.str) ∧ H2 a = some (SetP P w a L) ∧
  (∀ e ∈ L, SqT K H2 e.1 (e.2.map V.str)) ∧ L.length + 1 ≤ 4 ∧ Q .non (upd H2 a (SetP P w a (if ks ∈ L.map (·.2) then L else (p, ks) :: L)))
variable {o e : Expr} {to te : TE} {apos cpos : Pos}
theorem pe_addP (hu : X.A.units + 64 < cLine) (ho : PE X o to) (he : PE X e te) (m : M1 X o "add" apos e cpos) : PE X (.Call (.Attribute o "add" apos) [e] [] cpos) (tAddP X.K X.prog X.w to te) := by
  refine ⟨fun pins s σ H Q I h => ?_⟩
  refine wpAny_Call_method m.base m.few m.line PySem.F.plainAttrs_set PySem.F.slot_set_add PySem.F.type_set_add (thn (ho.run pins s σ H _ I h) fun u s1 q => ?_)
  obtain ⟨x, H1, I1, rx, ⟨a, L, rfl, ha⟩, q1⟩ := q
  obtain rfl : u = Value.ref a := rx
  obtain ⟨L0, _, ⟨⟨_, _, _, ⟨ob, o1, o2, _⟩, _⟩, _⟩⟩ := (I1.hok a _ ha).1
  refine ⟨⟨ob, o1, o2.1⟩, fun b z => (by cases z; exact ⟨ob, o1, o2.2.1⟩), ?_⟩
  rw [m.trees]
  refine Calls.callWith_builtin rfl (Calls.evalArgs_plain (Calls.spliced_cons (thn (he.run pins s1 σ H1 _ I1 q1) fun v s2 q2 => Calls.spliced_nil ?_)))
  obtain ⟨y, H2, I2, ry, a2, p, ks, L, ea, rfl, hp, h2, ht, h4, q⟩ := q2
  cases ea
  cases ry
  obtain ⟨L1, xs, ep, t, pm, F⟩ := set_at I2 h2 ht
  refine call_add F (tx_of I2 hp) hu (by rw [pm.length_eq]; exact h4) fun g L2 ys n t2 sb F2 y1 y2 => ?_
  have pm2 : L2.Perm (if ks ∈ L.map (·.2) then L else (p, ks) :: L) := by
    have me : ks ∈ L1.map (·.2) ↔ ks ∈ L.map (·.2) := (pm.map (·.2)).mem_iff
    by_cases hk : ks ∈ L.map (·.2)
    · rw [if_pos hk, y1 (me.mpr hk)]
      exact pm
    · rw [if_neg hk]
      exact (y2 (fun z => hk (me.mp z))).trans (pm.cons _)
  have he : ∃ u, g.get? a = some u := by
    obtain ⟨ob, z, _⟩ := F2.at_
    exact ⟨ob, z⟩
  exact ⟨.non, _, I2.write (e := a) (t' := s2.toks + (ks.length + 1)) (by rw [h2]; trivial) (.inl rfl) (fun b u hb hu => (sb.2 b hb).trans hu) he (setP_new pm2 F2.zero), rfl, q⟩
end
end SP

set_option maxHeartbeats 2000000
namespace N8
open PySem PySem.Spec PyProof.Rows L2 Evl
open SX (S)
abbrev sStandAhead : Stmt := topS 84
theorem scStandAhead : FnScope ["things", "seen", "found", "thing"] ["things"] (L2.defScope sStandAhead) := ⟨rfl, rfl, rfl, by decide +kernel, rfl, by decide +kernel, by decide +kernel⟩

/-! ### what stands ahead of its place -/
/-- the i-th of them stands ahead, too -/
def isAh {α : Type} [DecidableEq α] (l : List α) (i : Nat) : Bool := (l.take i).any fun y => decide (some y = l[i]?)
def ahL {α : Type} [DecidableEq α] (l : List α) : List Bool := (List.range l.length).map (isAh l)
theorem isAh_mem {α : Type} [DecidableEq α] {l : List α} {i : Nat} {x : α} (h : l[i]? = some x) : isAh l i = decide (x ∈ l.take i) := by
  unfold isAh
  rw [h]
  by_cases hm : x ∈ l.take i
  · rw [decide_eq_true hm]
    exact List.any_eq_true.mpr ⟨x, hm, decide_eq_true rfl⟩
  · rw [decide_eq_false hm]
    refine List.any_eq_false.mpr fun y hy => ?_
    rw [decide_eq_true_eq]
    exact fun e => hm (Option.some.inj e ▸ hy)
theorem isAh_memI {α : Type} [DecidableEq α] {l : List α} {i : Nat} {x : α} [Decidable (x ∈ l.take i)] (h : l[i]? = some x) : isAh l i = decide (x ∈ l.take i) := by
  rw [isAh_mem h]
  exact decide_eq_decide.mpr Iff.rfl
theorem range_app {β : Type} (f : Nat → β) (i : Nat) : (List.range (i + 1)).map f = (List.range i).map f ++ [f i] := by rw [List.range_succ, List.map_append]; rfl
theorem take_app {α : Type} {l : List α} {i : Nat} {x : α} (h : l[i]? = some x) : l.take (i + 1) = l.take i ++ [x] := by
  rw [List.take_succ, h]; rfl
def spAhead (K : PySem.W.Frag) : Sp := fun vs H Q _ => (∃ (p : Addr) (fs : List (List Nat)), vs = [.ref p] ∧ H p = some (.tup (fs.map N8.vs)) ∧ fs.length ≤ 100 ∧ RetL ((ahL fs).map V.bl) H Q) ∨
  ∃ (p : Addr) (L : List (Addr × List Str)), vs = [.ref p] ∧ H p = some (.lst (L.map fun e => V.ref e.1)) ∧ (∀ e ∈ L, H e.1 = some (.tup (e.2.map V.str))) ∧ L.length ≤ 4 ∧ RetL ((ahL (L.map (·.2))).map V.bl) H Q
section
variable {K : PySem.W.Frag} {σ : L2.St} {H H' : Hp} {te ta tb tl : TE} {t : TT} {v x : V} {D : Ends} {tz tu : TS} {Q : VK}
theorem s_dropAny (h : te σ H fun _ H1 => D.nx σ H1) : tDrop te D σ H := h
theorem rv_inK {P : Program} {w : World} {a : Addr} {M : Key → Bool} {n : Nat} {z : Str} (ha : H a = some (SetK P w a M n)) : RV (rSInK P w false) (.str z) (.ref a) H (.bl (M (.inr z))) := fun H1 e Q q => ⟨.inr z, a, M, n, rfl, rfl, e _ _ ha, q H1 (Ex.refl H1)⟩
theorem rv_inP {P : Program} {w : World} {a p : Addr} {ks : List Str} {L : List (Addr × List Str)} (hp : H p = some (.tup (ks.map V.str))) (ha : H a = some (SP.SetP P w a L)) (ht : ∀ e ∈ L, H e.1 = some (.tup (e.2.map V.str))) : RV (SP.rInP K P w) (.ref p) (.ref a) H (.bl (decide (ks ∈ L.map (·.2)))) := fun H1 e Q q =>
  ⟨p, a, ks, L, rfl, rfl, st_of (e _ _ hp), e _ _ ha, fun y hy => st_of (e _ _ (ht y hy)), q H1 (Ex.refl H1)⟩
end
section
variable {P : Program} {w : World} {K : PySem.W.Frag} {mg : Str → Option Value} {base : Heap}
theorem ok_standAhead {f : Addr} {fd : FuncData} (F : FnP K "_stand_ahead" sStandAhead f fd) (B : Bt mg) : FnOk P w K mg base L2.CX0 1 f fd ["things"] (spAhead K) := by
  refine F.ok scStandAhead (fun vs H Q E h => ?_) (fun cdv A outer s H vs Q E hr h => ?_)
  · rcases h with ⟨p, fs, rfl, _⟩ | ⟨p, L, rfl, _⟩ <;> rfl
  · rcases h with ⟨p, fs, rfl, hp, hl, q⟩ | ⟨p, L, rfl, hp, hL, h4, q⟩
    · refine ⟨_, PSs.nox (pss_cons (ps_set (i := 1) scStandAhead.nd rfl (.inl rfl) (pe_callTy0 cr_set0K (by rfl) B.set (by decide +kernel))) (pss_cons (ps_set (i := 2) scStandAhead.nd rfl (.inl rfl) (pe_lst pa_nil))
        (pss_cons (ps_for PassesOwn.never rfl (pi_tup (pv 0)) (pg_name (i := 3) scStandAhead.nd rfl (.inl rfl)) (pss_cons (ps_expr (pe_bm PySem.F.plainAttrs_list PySem.F.slot_list_append PySem.F.type_list_append mt_append (pv 2) (pa_cons (pe_cmpR or_sinK (pv 3) (pv 1) rfl) pa_nil)))
          (pss_one (ps_expr (pe_saddK (pv 1) (pa_cons (pv 3) pa_nil)))))) (pss_one (ps_ret (pv 2)))))), ?_⟩
      refine q_asgAny (rd_cb (rd_nil ⟨rfl, fun pS hpS => ?_⟩))
      refine q_asgL (el_lst ea_nil (by decide)) fun pF H2 hpF x2 h2 => ?_
      have e1 : Ex H (upd H pS (SetK P w pS (fun _ => false) 0)) := Ex.new hpS
      have hF0 : H pF = none := fresh_back e1 hpF
      have hSF : pS ≠ pF := fun z => by rw [← z, upd_same] at hpF; cases hpF
      refine q_forT (xs := fs.map N8.vs) (ev_var rfl) (st_of ((e1.trans x2) _ _ hp)) (fun i σ' H' => ∃ (M : Key → Bool) (n : Nat) (v3 : Option V), σ' = [some (.ref p), some (.ref pS), some (.ref pF), v3] ∧ Ex H H' ∧ H' pS = some (SetK P w pS M n) ∧ (∀ l, M (.inr (S l)) = decide (l ∈ fs.take i)) ∧ n ≤ i ∧ H' pF = some (.lst (((List.range i).map (isAh fs)).map V.bl)))
        (fun H3 x3 => ⟨_, 0, none, rfl, (e1.trans x2).trans x3, x3 _ _ (x2 _ _ upd_same), fun l => rfl, Nat.le_refl _, x3 _ _ h2⟩) (fun i σ' H' _ hP => ?_) (fun i x σ' H' hx hP => ?_) (fun σ' H' hP => ?_)
      · obtain ⟨M, n, v3, _, e, _⟩ := hP
        exact st_of (e _ _ hp)
      · obtain ⟨M, n, v3, rfl, e, hS, hM, hn, hF⟩ := hP
        have hil : i < fs.length := by
          have := (List.getElem?_eq_some_iff.mp hx).1
          rwa [List.length_map] at this
        rw [List.getElem?_map] at hx
        obtain ⟨l, hl2, rfl⟩ := Option.map_eq_some_iff.mp hx
        show tSeq _ _ _ [some (V.ref p), some (.ref pS), some (.ref pF), some (N8.vs l)] H'
        refine q_app (l := pF) hF (ev_var rfl) (ev_op (ev_var rfl) (ev_var rfl) (rv_inK hS)) (by rw [List.length_map, List.length_map, List.length_range]; omega) fun H3 x3 => ?_
        have x4 : Ex H (upd H3 pF (.lst (((List.range i).map (isAh fs)).map V.bl ++ [V.bl (M (.inr (S l)))]))) := (e.trans x3).mut hF0
        have hS4 : (upd H3 pF (.lst (((List.range i).map (isAh fs)).map V.bl ++ [V.bl (M (.inr (S l)))]))) pS = some (SetK P w pS M n) := by rw [upd_ne hSF]; exact x3 _ _ hS
        refine s_dropAny ⟨.ref pS, rfl, ⟨pS, M, n, rfl, hS4⟩, rd_cons ⟨N8.vs l, rfl, rd_nil ⟨pS, .inr (S l), M, n, rfl, rfl, hS4, by unfold scanBound; omega, ?_⟩⟩⟩
        refine ⟨_, _, _, rfl, x4.mut hpS, upd_same, fun l2 => ?_, by split <;> omega, ?_⟩
        · rw [hM, take_app hl2]
          by_cases hm : l2 ∈ fs.take i
          · rw [decide_eq_true hm, decide_eq_true (List.mem_append_left _ hm)]; rfl
          · rw [decide_eq_false hm, Bool.false_or]
            refine decide_eq_decide.mpr ⟨fun e => ?_, fun e => ?_⟩
            · rw [SX.S_inj (Sum.inr.inj e)]; exact List.mem_append_right _ (List.mem_singleton.mpr rfl)
            · rcases List.mem_append.mp e with z | z
              · exact absurd z hm
              · rw [List.mem_singleton.mp z]
        · rw [upd_ne (Ne.symm hSF), upd_same, range_app, List.map_append, hM, ← isAh_memI hl2]; rfl
      · obtain ⟨M, n, v3, rfl, e, hS, hM, hn, hF⟩ := hP
        refine s_ret (ev_var rfl) fun H3 x3 => q pF H3 hF0 (e.trans x3) ?_
        rw [x3 _ _ hF, List.length_map]; rfl
    · refine ⟨_, PSs.nox (pss_cons (ps_set (i := 1) scStandAhead.nd rfl (.inl rfl) (pe_callTy0 SP.cr_noneP (by rfl) B.set (by decide +kernel))) (pss_cons (ps_set (i := 2) scStandAhead.nd rfl (.inl rfl) (pe_lst pa_nil))
        (pss_cons (ps_for PassesOwn.never rfl (pi_list (pv 0)) (pg_name (i := 3) scStandAhead.nd rfl (.inl rfl)) (pss_cons (ps_expr (pe_bm PySem.F.plainAttrs_list PySem.F.slot_list_append PySem.F.type_list_append mt_append (pv 2) (pa_cons (pe_cmpR (SP.op_inP hr.units) (pv 3) (pv 1) rfl) pa_nil)))
          (pss_one (ps_expr (SP.pe_addP hr.units (pv 1) (pv 3) ⟨rfl, rfl, rfl, rfl⟩))))) (pss_one (ps_ret (pv 2)))))), ?_⟩
      refine q_asgAny (rd_cb (rd_nil ⟨rfl, fun pS hpS => ?_⟩))
      refine q_asgL (el_lst ea_nil (by decide)) fun pF H2 hpF x2 h2 => ?_
      have e1 : Ex H (upd H pS (SP.SetP P w pS [])) := Ex.new hpS
      have hF0 : H pF = none := fresh_back e1 hpF
      have hSF : pS ≠ pF := fun z => by rw [← z, upd_same] at hpF; cases hpF
      refine q_forL (xs := L.map fun e => V.ref e.1) (ev_var rfl) (sq_of ((e1.trans x2) _ _ hp)) (fun i σ' H' => ∃ (M : List (Addr × List Str)) (v3 : Option V), σ' = [some (.ref p), some (.ref pS), some (.ref pF), v3] ∧ Ex H H' ∧ H' pS = some (SP.SetP P w pS M) ∧ (∀ e ∈ M, e ∈ L) ∧ (∀ k, k ∈ M.map (·.2) ↔ k ∈ (L.map (·.2)).take i) ∧ M.length ≤ i ∧ H' pF = some (.lst (((List.range i).map (isAh (L.map (·.2)))).map V.bl)))
        (fun H3 x3 => ⟨[], none, rfl, (e1.trans x2).trans x3, x3 _ _ (x2 _ _ upd_same), (fun e he => by cases he), (fun k => by simp), Nat.le_refl _, x3 _ _ h2⟩) (fun i σ' H' _ hP => ?_) (fun i x σ' H' hx hP => ?_) (fun σ' H' hP => ?_)
      · obtain ⟨M, v3, _, e, _⟩ := hP
        exact sq_of (e _ _ hp)
      · obtain ⟨M, v3, rfl, e, hS, hin, hM, hn, hF⟩ := hP
        have hil : i < L.length := by
          have := (List.getElem?_eq_some_iff.mp hx).1
          rwa [List.length_map] at this
        rw [List.getElem?_map] at hx
        obtain ⟨y, hy, rfl⟩ := Option.map_eq_some_iff.mp hx
        have hy2 : (L.map (·.2))[i]? = some y.2 := by rw [List.getElem?_map, hy]; rfl
        have hyL := List.mem_of_getElem? hy
        show tSeq _ _ _ [some (V.ref p), some (.ref pS), some (.ref pF), some (.ref y.1)] H'
        refine q_app (l := pF) hF (ev_var rfl) (ev_op (ev_var rfl) (ev_var rfl) (rv_inP (e _ _ (hL y hyL)) hS fun z hz => e _ _ (hL z (hin z hz)))) (by rw [List.length_map, List.length_map, List.length_range]; omega) fun H3 x3 => ?_
        have x4 : Ex H (upd H3 pF (.lst (((List.range i).map (isAh (L.map (·.2)))).map V.bl ++ [V.bl (decide (y.2 ∈ M.map (·.2)))]))) := (e.trans x3).mut hF0
        have hS4 : (upd H3 pF (.lst (((List.range i).map (isAh (L.map (·.2)))).map V.bl ++ [V.bl (decide (y.2 ∈ M.map (·.2)))]))) pS = some (SP.SetP P w pS M) := by rw [upd_ne hSF]; exact x3 _ _ hS
        refine s_dropAny ⟨.ref pS, rfl, ⟨pS, M, rfl, hS4⟩, .ref y.1, rfl, pS, y.1, y.2, M, rfl, rfl, st_of (x4 _ _ (hL y hyL)), hS4, fun z hz => st_of (x4 _ _ (hL z (hin z hz))), by omega, ?_⟩
        refine ⟨_, _, rfl, x4.mut hpS, upd_same, fun z hz => ?_, fun k => ?_, by split; omega; rw [List.length_cons]; omega, ?_⟩
        · split at hz
          · exact hin z hz
          · rcases List.mem_cons.mp hz with rfl | hz
            · exact hyL
            · exact hin z hz
        · rw [take_app hy2, List.mem_append, List.mem_singleton]
          split
          · rename_i hm
            rw [hM]
            exact ⟨.inl, fun z => z.elim id fun z => by rw [z]; exact (hM _).mp hm⟩
          · rw [List.map_cons, List.mem_cons, hM]
            exact ⟨fun z => z.elim .inr .inl, fun z => z.elim .inr .inl⟩
        · rw [upd_ne (Ne.symm hSF), upd_same, range_app, List.map_append]
          rw [show decide (y.2 ∈ M.map (·.2)) = isAh (L.map (·.2)) i from (decide_eq_decide.mpr (hM _)).trans (isAh_memI hy2).symm]; rfl
      · obtain ⟨M, v3, rfl, e, hS, hin, hM, hn, hF⟩ := hP
        refine s_ret (ev_var rfl) fun H3 x3 => q pF H3 hF0 (e.trans x3) ?_
        rw [x3 _ _ hF, List.length_map]
        show _ = some (HO.lst (((List.range (L.map (·.2)).length).map (isAh (L.map (·.2)))).map V.bl))
        rw [List.length_map]
end
end N8

set_option maxHeartbeats 2000000
namespace N8
open PySem PySem.Spec PyProof.Rows L2 Evl
open SX (S)
abbrev sHasClassFlags : Stmt := topS 82
theorem scHasClassFlags : FnScope ["flags", "word"] ["flags"] (L2.defScope sHasClassFlags) := ⟨rfl, rfl, rfl, by decide +kernel, rfl, by decide +kernel, by decide +kernel⟩
abbrev sHasRightParent : Stmt := topS 83
theorem scHasRightParent : FnScope ["file"] ["file"] (L2.defScope sHasRightParent) := ⟨rfl, rfl, rfl, by decide +kernel, rfl, by decide +kernel, by decide +kernel⟩
abbrev sFaultOfClass : Stmt := topS 81
theorem scFaultOfClass : FnScope ["file", "twice"] ["file"] (L2.defScope sFaultOfClass) := ⟨rfl, rfl, rfl, by decide +kernel, rfl, by decide +kernel, by decide +kernel⟩

/-- a tuple of words at the top -/
def GT (K : PySem.W.Frag) (mg : Str → Option Value) (x : Str) (l : List Str) : Prop := ∃ a, mg x = some (.ref a) ∧ ∀ H, SqT K H a (l.map V.str)
section
variable {K : PySem.W.Frag} {σ : L2.St} {H H' : Hp} {te ta tb tl : TE} {t : TT} {v x : V} {D : Ends} {tz tu : TS} {Q : VK}
theorem ev_fld {a C dx : Addr} {fs : List (Str × V)} {f : Str} (h : Ev te σ H (.ref a)) (ha : H a = some (.ins C dx fs)) (c : Cls K C) (no : NoAttr K C f) (hl : fs.lookup f = some v) : Ev (tFld K te f) σ H v := fun H1 e Q q =>
  h H1 e _ fun H2 e2 => ⟨a, C, dx, fs, v, rfl, (e.trans e2) _ _ ha, c, no, hl, q H2 e2⟩
theorem getD_str {w : List Str} {i : Nat} {z : Str} (h : w[i]? = some z) : w.getD i Str.empty = z := by rw [List.getD_eq_getElem?_getD, h]; rfl
theorem given_words (w : List Str) (g : Str → V) : given (w.map V.str).length (fun _ => true) (fun i => g (w.getD i Str.empty)) = w.map g := by
  rw [List.length_map]
  exact given_all w g _ fun i c h => by rw [getD_str h]
/-- [g(x) for x in a tuple of words] -/
theorem el_mapW {p : Addr} {w : List Str} {j : Nat} {vs : List Nat} (g : Str → V) (h : Ev tl σ H (.ref p)) (hp : ∀ H1, Ex H H1 → SqT K H1 p (w.map V.str)) (hz : w.length ≤ 40000) (hw : ∀ x, wipe ((wipe σ vs).set j (some x)) vs = wipe σ vs)
    (he : ∀ x H1, Ex H H1 → x ∈ w → Ev te ((wipe σ vs).set j (some (.str x))) H1 (g x)) : EvL (tLc (iTup K tl) (gName j) tYes te vs) σ H (w.map g) := by
  rw [← given_words w g]
  refine el_lcT (xs := w.map V.str) _ _ h hp (by rw [List.length_map]; exact hz) hw (fun i y H1 x1 hy => fun H3 e3 Q q => q H3 (Ex.refl H3)) (fun i y H1 x1 hy _ => ?_)
  rw [List.getElem?_map] at hy
  obtain ⟨z, hz, rfl⟩ := Option.map_eq_some_iff.mp hy
  rw [getD_str hz]
  exact he z H1 x1 (List.mem_of_getElem? hz)
/-- [x for x in a tuple of words if f(x)] -/
theorem el_filtW {p : Addr} {w : List Str} {j : Nat} {vs : List Nat} (f : Str → Bool) (h : Ev tl σ H (.ref p)) (hp : ∀ H1, Ex H H1 → SqT K H1 p (w.map V.str)) (hz : w.length ≤ 40000) (hw : ∀ x, wipe ((wipe σ vs).set j (some x)) vs = wipe σ vs)
    (ht : ∀ x H1, Ex H H1 → x ∈ w → EvT t ((wipe σ vs).set j (some (.str x))) H1 (f x)) (he : ∀ x H1, Ex H H1 → Ev te ((wipe σ vs).set j (some (.str x))) H1 (.str x)) : EvL (tLc (iTup K tl) (gName j) t te vs) σ H ((w.filter f).map V.str) := by
  have e : (w.filter f).map V.str = given (w.map V.str).length (fun i => f (w.getD i Str.empty)) (fun i => V.str (w.getD i Str.empty)) := by
    rw [List.length_map]
    exact (given_strs (ws := w) f).symm
  rw [e]
  refine el_lcT (xs := w.map V.str) _ _ h hp (by rw [List.length_map]; exact hz) hw (fun i y H1 x1 hy => ?_) (fun i y H1 x1 hy _ => ?_)
  · rw [List.getElem?_map] at hy
    obtain ⟨z, hz, rfl⟩ := Option.map_eq_some_iff.mp hy
    rw [getD_str hz]
    exact ht z H1 x1 (List.mem_of_getElem? hz)
  · rw [List.getElem?_map] at hy
    obtain ⟨z, hz, rfl⟩ := Option.map_eq_some_iff.mp hy
    rw [getD_str hz]
    exact he z H1 x1
theorem ev_inWT {p : Addr} {ws : List Str} {z : Str} (h : Ev ta σ H (.str z)) (h2 : Ev tb σ H (.ref p)) (hp : SqT K H p (ws.map V.str)) : Ev (tOp (rIn K false) ta tb) σ H (.bl (decide (z ∈ ws))) := ev_is (ev_op h h2 (rv_isT hp rfl (flat_strs _))) (by rw [inV_strs])
theorem ev_niWT {p : Addr} {ws : List Str} {z : Str} (h : Ev ta σ H (.str z)) (h2 : Ev tb σ H (.ref p)) (hp : SqT K H p (ws.map V.str)) : Ev (tOp (rIn K true) ta tb) σ H (.bl (!decide (z ∈ ws))) := ev_is (ev_op h h2 (rv_niT hp rfl (flat_strs _))) (by rw [inV_strs])
/-- all(x in a tuple at the top for x in a tuple of words) -/
theorem ev_allW {p a : Addr} {w l : List Str} {j : Nat} {vs : List Nat} (h : Ev tl σ H (.ref p)) (hp : ∀ H1, Ex H H1 → SqT K H1 p (w.map V.str)) (ha : ∀ H1, SqT K H1 a (l.map V.str)) (hz : w.length ≤ 40000) (hw : ∀ x, wipe ((wipe σ vs).set j (some x)) vs = wipe σ vs) (hj : ∀ x, ((wipe σ vs).set j (some x))[j]? = some (some x)) :
    Ev (tCB (rAll K) (tCons (tLc (iTup K tl) (gName j) tYes (tOp (rIn K false) (tVar j) (tC (.ref a))) vs) tNil)) σ H (.bl (w.all fun x => decide (x ∈ l))) := by
  rw [show (w.all fun x => decide (x ∈ l)) = (w.map fun x => decide (x ∈ l)).all id from (all_map w fun x => decide (x ∈ l)).symm]
  refine ev_all (bs := w.map fun x => decide (x ∈ l)) ?_
  rw [← map_bl]
  exact el_mapW (fun x => V.bl (decide (x ∈ l))) h hp hz hw fun x H1 x1 hx => ev_inWT (ev_var (hj _)) ev_c (ha _)
end
/-! ### the class -/
def hcf (w : List Str) : Bool := if (!(w.all fun x => decide (x ∈ four))) = true then false else if decide (("abstract" : Str) ∈ w) = true then !decide (("final" : Str) ∈ w) else !decide (("interface" : Str) ∈ w)
def spHCF : Sp := fun vs H Q _ => ∃ (p : Addr) (w : List Str), vs = [.ref p] ∧ H p = some (.tup (w.map V.str)) ∧ w.length ≤ 20 ∧ RetV (.bl (hcf w)) H Q
def hrp (d : CD) : Bool := if (!decide (V.bl (decide (parV d.parent = .non)) = V.bl (decide (N8.vs d.name = .str "Object")))) = true then false else !decide (("interface" : Str) ∈ inOrder d.ws) || decide (parV d.parent = .str "Object")
def spHRP (K : PySem.W.Frag) : Sp := fun vs H Q _ => ∃ (a : Addr) (d : CD), vs = [.ref a] ∧ FileAt K H a d ∧ RetV (.bl (hrp d)) H Q
def idxT : List Bool → Nat
  | [] => 0
  | b :: r => if b = true then 0 else idxT r + 1
theorem idxT_at : ∀ {l : List Bool}, true ∈ l → l[idxT l]? = some true ∧ ∀ m, m < idxT l → l[m]? = some false
  | [], h => by cases h
  | b :: r, h => by
    cases b with
    | true => exact ⟨rfl, fun m hm => absurd hm (Nat.not_lt_zero m)⟩
    | false =>
      have hr : true ∈ r := by simpa using h
      obtain ⟨h1, h2⟩ := idxT_at hr
      refine ⟨by show (false :: r)[idxT r + 1]? = _; simpa using h1, fun m hm => ?_⟩
      cases m with
      | zero => rfl
      | succ m => exact h2 m (Nat.lt_of_succ_lt_succ hm)
abbrev Due3 : Type := Option (Str × Str × Int)
def RetD (o : Due3) (H : Hp) (Q : VK) : Prop := match o with
  | none => ∀ H', Ex H H' → Q .non H'
  | some (a, b, k) => ∀ q H', H q = none → Ex H H' → H' q = some (.tup [.str a, .str b, .int k]) → Q (.ref q) H'
theorem RetD.ex {o : Due3} {H H' : Hp} {Q : VK} (h : RetD o H Q) (e : Ex H H') : RetD o H' Q := by
  cases o with
  | none => exact fun H2 e2 => h H2 (e.trans e2)
  | some z => exact fun q H2 hq e2 h2 => h q H2 (fresh_back e hq) (e.trans e2) h2
def pClass (d : CD) : Due3 := if (!hcf (inOrder d.ws)) = true then some ("flags", "class", -1) else if (!hrp d) = true then some ("parent", "class", -1) else if true ∈ ahL d.faces then some ("interfaces", "class", (idxT (ahL d.faces) : Nat)) else none
def spFClass (K : PySem.W.Frag) : Sp := fun vs H Q _ => ∃ (a : Addr) (d : CD), vs = [.ref a] ∧ FileAt K H a d ∧ d.faces.length ≤ 100 ∧ RetD (pClass d) H Q
theorem inOrder_len (w : List Str) : (inOrder w).length ≤ 9 := Nat.le_trans (List.length_filter_le _ _) (by decide)
section
variable {P : Program} {w : World} {K : PySem.W.Frag} {mg : Str → Option Value} {base : Heap}
theorem ok_hasClassFlags {f : Addr} {fd : FuncData} (F : FnP K "_has_class_flags" sHasClassFlags f fd) (B : Bt mg) (gO : GT K mg "OF_CLASSES" four) : FnOk P w K mg base L2.CX0 1 f fd ["flags"] spHCF := by
  obtain ⟨aOC, g_OF_CLASSES, hO⟩ := gO
  refine F.ok scHasClassFlags (fun vs H Q E h => ?_) (fun cdv A outer s H vs Q E hr h => ?_)
  · obtain ⟨p, w0, rfl, _⟩ := h
    rfl
  · obtain ⟨p, w0, rfl, hp, hl, q⟩ := h
    refine ⟨_, PSs.nox (pss_cons (ps_if (pt_not (pt_val (pe_callB (cr_all rfl) (by rfl) B.all (by decide +kernel) (pa_cons (pe_lc (own := [("word", 1)]) (g := gName 1) (tt := tYes) rfl scHasClassFlags.nd (pi_tup (pv 0)) (blkOk_by (N := ["flags", "word"]) (sc := L2.defScope sHasClassFlags) (by decide +kernel)) (fun _ _ _ _ _ => pg_name (i := 1) scHasClassFlags.nd rfl (Or.inl rfl)) (fun _ _ _ _ _ => pts_nil) (fun _ _ _ _ _ => (pe_cmpR (r := rIn K false) op_in_seq (pv 1) (pe_glob (v := .ref aOC) (by rfl) g_OF_CLASSES rfl) rfl))) pa_nil)))) (pss_one (ps_ret pe_bl)) pss_nil)
      (pss_cons (ps_if (pt_cmpR op_in_seq pe_str (pv 0) rfl) (pss_one (ps_ret (pe_cmpR op_notIn_seq pe_str (pv 0) rfl))) pss_nil)
      (pss_one (ps_ret (pe_cmpR op_notIn_seq pe_str (pv 0) rfl))))), ?_⟩
    refine q_when (b := !(w0.all fun x => decide (x ∈ four))) (et_not (et_test (ev_allW (ev_var rfl) (fun H1 x1 => st_of (x1 _ _ hp)) hO (by omega) (fun _ => rfl) (fun _ => rfl)))) (fun e H1 x1 => ?_) (fun e H1 x1 => ?_)
    · exact s_ret (v := .bl (hcf w0)) (ev_is ev_c (by unfold hcf; rw [if_pos e])) fun H2 x2 => q H2 (x1.trans x2)
    refine q_when (b := decide (("abstract" : Str) ∈ w0)) (et_test (ev_inWT ev_c (ev_var rfl) (st_of (x1 _ _ hp)))) (fun e2 H2 x2 => ?_) (fun e2 H2 x2 => ?_)
    · exact s_ret (v := .bl (hcf w0)) (ev_is (ev_niWT ev_c (ev_var rfl) (st_of ((x1.trans x2) _ _ hp))) (by unfold hcf; rw [if_neg (by rw [e]; decide), if_pos e2])) fun H3 x3 => q H3 ((x1.trans x2).trans x3)
    · exact s_ret (v := .bl (hcf w0)) (ev_is (ev_niWT ev_c (ev_var rfl) (st_of ((x1.trans x2) _ _ hp))) (by unfold hcf; rw [if_neg (by rw [e]; decide), if_neg (by rw [e2]; decide)])) fun H3 x3 => q H3 ((x1.trans x2).trans x3)
theorem ok_hasRightParent {f : Addr} {fd : FuncData} (F : FnP K "_has_right_parent" sHasRightParent f fd) (B : Bt mg) (cf : CFK K) : FnOk P w K mg base L2.CX0 1 f fd ["file"] (spHRP K) := by
  refine F.ok scHasRightParent (fun vs H Q E h => ?_) (fun cdv A outer s H vs Q E hr h => ?_)
  · obtain ⟨a, d, rfl, _⟩ := h
    rfl
  · obtain ⟨a, d, rfl, ⟨dx, fs, ha, qi, qw, qf, qm, yf, ym, l1, l2, l3, l4, l5, l6, h7, h8, h9, h10, h11, h12⟩, q⟩ := h
    refine ⟨_, PSs.nox (pss_cons (ps_if (pt_cmpR op_ne (pe_cmpR op_isN (pe_fld (pv 0) rfl) pe_non (nomark _)) (pe_cmpR op_eq (pe_fld (pv 0) rfl) pe_str (nomark _)) (nomark _)) (pss_one (ps_ret pe_bl)) pss_nil)
      (pss_one (ps_ret (pe_or (pe_cmpR op_notIn_seq pe_str (pe_fld (pv 0) rfl) rfl) (pe_one (pe_cmpR op_eq (pe_fld (pv 0) rfl) pe_str (nomark _))))))), ?_⟩
    have fl : ∀ {σ' : L2.St} {H1 : Hp} {x : Str} {v : V}, σ'[0]? = some (some (.ref a)) → Ex H H1 → x ∈ (["name", "parent", "interfaces", "flags", "fields", "methods"] : List Str) → fs.lookup x = some v → Ev (tFld K (tVar 0) x) σ' H1 v := fun h0 x1 hm hl => ev_fld (ev_var h0) (x1 _ _ ha) cf.c (cf.no _ hm) hl
    have hsc : scal (parV d.parent) (.str "Object") = true := by cases d.parent <;> rfl
    refine q_when (b := !decide (V.bl (decide (parV d.parent = .non)) = V.bl (decide (N8.vs d.name = .str "Object")))) (et_test (ev_op (x := .bl (decide (parV d.parent = .non))) (y := .bl (decide (N8.vs d.name = .str "Object"))) (ev_op (fl rfl (Ex.refl H) (by decide) l2) ev_c fun H3 e Q' q' => ⟨rfl, q' H3 (Ex.refl H3)⟩) (ev_op (fl rfl (Ex.refl H) (by decide) l1) ev_c (rv_eq rfl)) (rv_ne rfl))) (fun e H1 x1 => ?_) (fun e H1 x1 => ?_)
    · exact s_ret (v := .bl (hrp d)) (ev_is ev_c (by unfold hrp; rw [if_pos e])) fun H2 x2 => q H2 (x1.trans x2)
    · refine s_ret (v := .bl (hrp d)) (ev_is (ev_orV (ev_niWT ev_c (fl rfl x1 (by decide) l4) (st_of (x1 _ _ h8))) fun _ => ev_op (fl rfl x1 (by decide) l2) ev_c (rv_eq hsc)) ?_) fun H2 x2 => q H2 (x1.trans x2)
      unfold hrp
      rw [if_neg (by rw [e]; decide)]
theorem ok_faultOfClass {f : Addr} {fd : FuncData} (F : FnP K "_fault_of_class" sFaultOfClass f fd) (B : Bt mg) (cf : CFK K) (c_has_class_flags : Cl P w K mg base L2.CX0 1 "_has_class_flags" ["flags"] spHCF) (c_has_right_parent : Cl P w K mg base L2.CX0 1 "_has_right_parent" ["file"] (spHRP K))
    (c_stand_ahead : Cl P w K mg base L2.CX0 1 "_stand_ahead" ["things"] (spAhead K)) : FnOk P w K mg base L2.CX0 2 f fd ["file"] (spFClass K) := by
  refine F.ok scFaultOfClass (fun vs H Q E h => ?_) (fun cdv A outer s H vs Q E hr h => ?_)
  · obtain ⟨a, d, rfl, _⟩ := h
    rfl
  · obtain ⟨a, d, rfl, fa, hl, q⟩ := h
    have fa0 := fa
    obtain ⟨dx, fs, ha, qi, qw, qf, qm, yf, ym, l1, l2, l3, l4, l5, l6, h7, h8, h9, h10, h11, h12⟩ := fa0
    refine ⟨_, PSs.nox (pss_cons (ps_if (pt_not (pt_val (pe_cl c_has_class_flags hr (by decide) (by rfl) (pa_cons (pe_fld (pv 0) rfl) pa_nil)))) (pss_one (ps_ret (pe_tup (pa_cons pe_str (pa_cons pe_str (pa_cons (pe_un un_neg pe_int) pa_nil)))))) pss_nil)
      (pss_cons (ps_if (pt_not (pt_val (pe_cl c_has_right_parent hr (by decide) (by rfl) (pa_cons (pv 0) pa_nil)))) (pss_one (ps_ret (pe_tup (pa_cons pe_str (pa_cons pe_str (pa_cons (pe_un un_neg pe_int) pa_nil)))))) pss_nil)
      (pss_cons (ps_set (i := 1) scFaultOfClass.nd rfl (.inl rfl) (pe_cl c_stand_ahead hr (by decide) (by rfl) (pa_cons (pe_fld (pv 0) rfl) pa_nil)))
      (pss_cons (ps_if (pt_cmpR op_in_seq pe_bl (pv 1) rfl) (pss_one (ps_ret (pe_tup (pa_cons pe_str (pa_cons pe_str (pa_cons (pe_bm PySem.F.plainAttrs_list PySem.F.slot_list_index PySem.F.type_list_index mt_index (pv 1) (pa_cons pe_bl pa_nil)) pa_nil)))))) pss_nil)
      (pss_one (ps_ret pe_non)))))), ?_⟩
    have fl : ∀ {σ' : L2.St} {H1 : Hp} {x : Str} {v : V}, σ'[0]? = some (some (.ref a)) → Ex H H1 → x ∈ (["name", "parent", "interfaces", "flags", "fields", "methods"] : List Str) → fs.lookup x = some v → Ev (tFld K (tVar 0) x) σ' H1 v := fun h0 x1 hm hl => ev_fld (ev_var h0) (x1 _ _ ha) cf.c (cf.no _ hm) hl
    have len := inOrder_len d.ws
    refine q_when (b := !hcf (inOrder d.ws)) (et_not (et_test (ev_call (ea_cons (fl rfl (Ex.refl H) (by decide) l4) ea_nil) fun H1 e Q' q' E' => ⟨qw, _, rfl, e _ _ h8, by omega, q'⟩))) (fun e H1 x1 => ?_) (fun e1 H1 x1 => ?_)
    · unfold pClass at q
      rw [if_pos e] at q
      exact s_retU (eu_tup (vs := [.str "flags", .str "class", .int (-1)]) (ea_cons ev_c (ea_cons ev_c (ea_cons (ev_un ev_c ru_neg) ea_nil))) (by show 3 ≤ 100000; decide)) fun r H3 hr3 x3 h3 => q r H3 (fresh_back x1 hr3) (x1.trans x3) h3
    refine q_when (b := !hrp d) (et_not (et_test (ev_call (ea_cons (ev_var rfl) ea_nil) fun H2 e Q' q' E' => ⟨a, d, rfl, fa.ex (x1.trans e), q'⟩))) (fun e H2 x2 => ?_) (fun e2 H2 x2 => ?_)
    · unfold pClass at q
      rw [if_neg (by rw [e1]; decide), if_pos e] at q
      exact s_retU (eu_tup (vs := [.str "parent", .str "class", .int (-1)]) (ea_cons ev_c (ea_cons ev_c (ea_cons (ev_un ev_c ru_neg) ea_nil))) (by show 3 ≤ 100000; decide)) fun r H3 hr3 x3 h3 => q r H3 (fresh_back (x1.trans x2) hr3) ((x1.trans x2).trans x3) h3
    have x12 := x1.trans x2
    unfold pClass at q
    rw [if_neg (by rw [e1]; decide), if_neg (by rw [e2]; decide)] at q
    refine q_asgAny (rd_call (rd_cons (rd_ev (fl rfl x12 (by decide) l3) fun H3 x3 => rd_nil (.inl ⟨qi, d.faces, rfl, (x12.trans x3) _ _ h7, hl, fun pT H4 hpT x4 h4 => ?_⟩))))
    have x14 := (x12.trans x3).trans x4
    have lenA : (ahL d.faces).length = d.faces.length := by unfold ahL; rw [List.length_map, List.length_range]
    have flatB : ((ahL d.faces).map V.bl).all flatV = true := by rw [List.all_map]; exact List.all_eq_true.mpr fun _ _ => rfl
    have eqb : ∀ b : Bool, eqV (.bl b) (.bl true) = b := fun b => by cases b <;> rfl
    have inb : inV (.bl true) ((ahL d.faces).map V.bl) = decide (true ∈ ahL d.faces) := by
      unfold inV
      rw [List.any_map]
      by_cases hm : true ∈ ahL d.faces
      · rw [decide_eq_true hm]
        exact List.any_eq_true.mpr ⟨true, hm, eqb true⟩
      · rw [decide_eq_false hm]
        refine List.any_eq_false.mpr fun y hy => ?_
        show ¬ eqV (.bl y) (.bl true) = true
        rw [eqb]
        exact fun z => hm (z ▸ hy)
    refine q_when (b := decide (true ∈ ahL d.faces)) (et_test (ev_is (ev_op ev_c (ev_var rfl) (rv_isL (sq_of h4) rfl flatB)) (by rw [inb]))) (fun e H5 x5 => ?_) (fun e H5 x5 => ?_)
    · have hm := of_decide_eq_true e
      rw [if_pos hm] at q
      obtain ⟨i1, i2⟩ := idxT_at hm
      refine rd_ret (rd_tup (rd_cons (rd_c (rd_cons (rd_c (rd_cons ⟨.ref pT, rfl, .inl ⟨rfl, _, sq_of (x5 _ _ h4)⟩, ?_⟩))))))
      refine rd_cons (rd_c (rd_nil ⟨pT, _, .bl true, idxT (ahL d.faces), .bl true, rfl, rfl, sq_of (x5 _ _ h4), rfl, flatB, by rw [List.getElem?_map, i1]; rfl, rfl, fun m z' hm2 hz => ?_, rd_nil ⟨by show 3 ≤ sizeLine; decide, fun r hr => ?_⟩⟩))
      · rw [List.getElem?_map, i2 m hm2] at hz
        cases hz
        exact eqb false
      · exact q r _ (fresh_back (x14.trans x5) hr) ((x14.trans x5).trans (Ex.new hr)) upd_same
    · rw [if_neg (of_decide_eq_false e)] at q
      exact s_ret ev_c fun H6 x6 => q H6 ((x14.trans x5).trans x6)
end
end N8

set_option maxHeartbeats 2000000
/-! enumerate of a tuple -/
namespace EN
open PySem PySem.Spec PyProof.Rows L2
open AutoSeq1 (wpAny_loadPart')
theorem new_t (b : Addr) (its : Array Value) : Meets (Builtin.«enumerate.__new__» ⟨[.type "enumerate", .ref b], []⟩) (fun _ R s => s.heap.IsTuple b its ∧
    R (.ok (.ret (.ref (s.heap.push { cls := .type "tuple_iterator", data := .fields #[.ref b, .int 0 0] }).objs.size))) { s with heap := (s.heap.push { cls := .type "tuple_iterator", data := .fields #[.ref b, .int 0 0] }).push { cls := .type "enumerate", data := .fields #[.none, .bool false, .ref s.heap.objs.size, rawInt 0, .none, .none] } }) :=
  .of_wp fun prog w A R s q => by
    obtain ⟨g0, g1, g2, g3, g4⟩ := s
    obtain ⟨q1, q2⟩ := q
    have sub := sub_enumerate
    wp_walk
    refine wpAny_stack_any fun st => wpAny_pure ?_
    split
    · rename_i cl _ _ _ _ _
      cases (cl == Value.type "enumerate")
      · wp_walk using wpAny_pyIter_tuple q1
        exact ⟨_, rfl, q2⟩
      · wp_walk using wpAny_pyIter_tuple q1
        exact ⟨_, rfl, q2⟩
    · wp_walk using wpAny_pyIter_tuple q1
      exact ⟨_, rfl, q2⟩
section
variable {P : Program} {w : World} {A : Around} {E : Value → Shared → Prop} {s : Shared}
theorem call_t {b : Addr} {its : Array Value} {Q : Value → Shared → Prop} (hb : s.heap.IsTuple b its)
    (q : ∀ g, IsEnum g (s.heap.objs.size + 1) s.heap.objs.size 0 .none → g.IsTupleIter s.heap.objs.size b 0 → g.objs.size = s.heap.objs.size + 2 → (∀ c o, s.heap.get? c = some o → g.get? c = some o) → Q (.ref (s.heap.objs.size + 1)) { s with heap := g }) :
    wpAny (model P w) A (call (.type "enumerate") [.ref b]) Q E s := by
  refine callType_new PySem.F.called_enumerate (by decide) (PySem.F.typeCall_enumerate_1 _) (PySem.F.newCall_enumerate_1 _) (fun y => PySem.F.args_object_init_2 y _) PySem.F.entry_enumerate_new (new_t b its) ⟨hb, ?_⟩
  have z1 : (s.heap.push { cls := .type "tuple_iterator", data := .fields #[.ref b, .int 0 0] }).objs.size = s.heap.objs.size + 1 := Heap.size_push ..
  have z2 := Heap.get?_push_size (s.heap.push { cls := .type "tuple_iterator", data := .fields #[.ref b, .int 0 0] }) (o := { cls := .type "enumerate", data := .fields #[.none, .bool false, .ref s.heap.objs.size, rawInt 0, .none, .none] }) rfl
  show _ ∧ _
  rw [z1] at z2 ⊢
  exact ⟨⟨_, z2, rfl⟩, q _ z2 ⟨_, Heap.get?_push_of_some _ (Heap.get?_push_size _ rfl), rfl, rfl⟩ (by rw [Heap.size_push, z1]) fun c o y => Heap.get?_push_of_some _ (Heap.get?_push_of_some _ y)⟩
end
/-- the tuple at a, each item in a new pair -/
def Iet (K : PySem.W.Frag) (a : Addr) : It :=
  ⟨fun i H => ∃ (xs : List V) (x : V), SqT K H a xs ∧ xs[i]? = some x, fun i H v H' => ∃ T x, v = .ref T ∧ H T = none ∧ H' = upd H T (.tup [.int (i : Nat), x]) ∧ ∀ xs, SqT K H a xs → xs[i]? = some x, fun i H => ∃ xs : List V, SqT K H a xs ∧ xs.length ≤ i⟩
theorem apart {g : Heap} {e it a : Addr} {i : Int} {old : Value} {its : Array Value} (h1 : IsEnum g e it i old) (h2 : g.IsTuple a its) : e ≠ a := fun z => by
  obtain ⟨o, o1, o2, _⟩ := h2
  rw [← z, h1] at o1
  rw [← Option.some.inj o1] at o2
  injection o2 with o2
  exact absurd o2 (by decide)
theorem apart2 {g : Heap} {it a : Addr} {i : Nat} {its : Array Value} (h1 : g.IsTupleIter it a i) (h2 : g.IsTuple a its) : a ≠ it := fun z => by
  obtain ⟨o, o1, o2, _⟩ := h2
  obtain ⟨u, u1, u2, _⟩ := h1
  rw [z, u1] at o1
  rw [← Option.some.inj o1, u2] at o2
  injection o2 with o2
  exact absurd o2 (by decide)
/-- behind the last item -/
theorem last_t {P : Program} {w : World} {A : Around} (hd : A.handled = none) {it a : Addr} {i : Nat} {its : Array Value} (hx : its[i]? = none) : Draws P w A it [it, a] i (fun _ _ => False) (fun j g => j = i ∧ g.IsTupleIter it a i ∧ g.IsTuple a its) where
  live := fun _ _ st => let ⟨o, ho, _⟩ := st.2.1; ⟨o, ho⟩
  frame := fun _ _ _ st k => ⟨st.1, st.2.1.at fun o e => k it (by simp) o e, st.2.2.at fun o e => k a (by simp) o e⟩
  item := fun j s Q E hj st _ => absurd st.1 (Nat.ne_of_lt hj)
  done := fun s Q E st q => wpAny_nextOf_tuple_end hd st.2.1 st.2.2 hx q
theorem turn_t {P : Program} {w : World} {K : PySem.W.Frag} {elts : List Expr} {kk : Nat} {tpos : Pos} (a e it : Addr) :
    Turn P w K (.Tuple elts kk tpos) (Iet K a) [e, it] e (fun i g => (∃ old, IsEnum g e it ((i : Nat) : Int) old) ∧ g.IsTupleIter it a i ∧ e ≠ it) where
  mem := by simp
  obj := fun i g st b hb => by
    obtain ⟨⟨old, q1⟩, ⟨o, o1, o2, o3⟩, _⟩ := st
    rcases (show b = e ∨ b = it by simpa using hb) with z | z
    · exact ⟨_, by rw [z]; exact q1, fun v q => by cases q⟩
    · exact ⟨o, by rw [z]; exact o1, fun v q => by rw [o3] at q; cases q⟩
  keep := fun i g g2 st k => by
    obtain ⟨⟨old, q1⟩, q2, q3⟩ := st
    exact ⟨⟨old, k e (by simp) _ q1⟩, q2.at fun o q => k it (by simp) o q, q3⟩
  item := by
    intro X hP hw hK hc i pins s σ H E I hf st hg
    subst hP hw hK
    obtain ⟨⟨old, he⟩, hit, hne⟩ := st
    obtain ⟨xs, x, hq, hx⟩ := hg
    obtain ⟨its, rv, tp, _⟩ := I.tuple hq
    obtain ⟨u, hu, ru⟩ := rv.get hx
    have hd := I.ok.hd hc
    have ha := apart he tp
    have D := Draws.tuple (prog := X.prog) (w := X.w) (A := X.A.in1) hd it a (apart2 hit tp) its.toArray
    have lt : i < its.toArray.size := by
      have := (List.getElem?_eq_some_iff.mp hx).1
      rw [List.size_toArray, ← rv.length]
      exact this
    have le : e < s.heap.objs.size := Heap.lt_size he
    have li : it < s.heap.objs.size := by obtain ⟨_, q, _⟩ := hit; exact Heap.lt_size q
    refine wpAny_pyNext_enum_itemD D he ⟨hit, tp⟩ lt hne (by simp [hne, ha]) fun y g tk hy ho st2 hT hsz hk => ?_
    obtain rfl : u = y := by
      have h1 : its[i]? = some y := by simpa using hy
      rw [hu] at h1
      exact Option.some.inj h1
    refine ⟨_, rfl, wpAny_letOwnedTupleGo_enum (s := { s with heap := g, toks := tk + 1 }) ho fun g2 he2 sb => ?_⟩
    have hT2 : g2.get? s.heap.objs.size = some { cls := .type "tuple", data := .seq #[.int i tk, u] } := (sb.2 _ (Nat.ne_of_gt le)).trans hT
    have new : ObjOk X.prog X.w (upd H s.heap.objs.size (.tup [.int (i : Nat), x])) g2 s.heap.objs.size (.tup [.int (i : Nat), x]) := ⟨by show 2 ≤ sizeLine; decide, [.int i tk, u], .cons ⟨_, rfl⟩ (.cons ru .nil), ⟨_, hT2, rfl, _, rfl⟩⟩
    have I1 : Inv X pins σ (upd H s.heap.objs.size (.tup [.int (i : Nat), x])) { s with heap := g2, toks := tk + 1 } :=
      I.turnedNew (ch := [e, it]) (fun b ob hb q => (sb.2 b (fun z => hb (by simp [z]))).trans (hk b ob (fun z => hb (by simp [z])) (fun z => hb (by simp [z])) q)) hf (Nat.le_refl _) new
    refine ⟨.ref s.heap.objs.size, _, I1, rfl, ⟨_, x, rfl, I.hok.fresh (Nat.le_refl _), rfl, fun ys hy2 => ?_⟩, ⟨⟨u, ?_⟩, st2.1.at fun o q => (sb.2 it (Ne.symm hne)).trans q, hne⟩, fun b hb => ?_⟩
    · rw [I.tuple_inj hy2 hq]
      exact hx
    · rw [show ((i + 1 : Nat) : Int) = (i : Int) + 1 by omega]
      exact he2
    · have lb : b < s.heap.objs.size := by
        rcases (show b = e ∨ b = it by simpa using hb) with z | z
        · rw [z]; exact le
        · rw [z]; exact li
      rw [upd_ne (Nat.ne_of_lt lb)]
      exact (hf b hb).1
  done := by
    intro X hP hw hK hc i pins s σ H E I hf st hg
    subst hP hw hK
    obtain ⟨⟨old, he⟩, hit, hne⟩ := st
    obtain ⟨xs, hq, hx⟩ := hg
    obtain ⟨its, rv, tp, _⟩ := I.tuple hq
    obtain ⟨f0, f1, f2, f3, f4, f5⟩ := hf it (by simp)
    have out : its.toArray[i]? = none := by
      have e := rv.length
      simp; omega
    exact wpAny_pyNext_enum_endD (last_t (A := X.A.in1) (I.ok.hd hc) out) he ⟨rfl, hit, tp⟩ fun g eb => ⟨rfl, I.turned (t' := s.toks) (fun b o hb q => eb b o hb q) f0 f1 f3 f4 f5⟩
  self := fun A i s Q E st h => let ⟨⟨_, he⟩, _⟩ := st; wpAny_pyIter_enum he h
def iEnT (K : PySem.W.Frag) (ta : TA) : TI := fun σ H R => ta σ H fun vs H1 => ∃ a xs, vs = [.ref a] ∧ SqT K H1 a xs ∧ R (Iet K a) H1
theorem pi_enT {X : Cx} {e : Expr} {ta : TA} {p pos tpos : Pos} {elts : List Expr} {kk : Nat} (hg : Gl X "enumerate") (hm : X.mg "enumerate" = none) (ha : PA X [e] ta) (hs : starEach [e] X.env = [(false, eval e X.env)] := by rfl) :
    PI X (.Tuple elts kk tpos) (.Call (.Name "enumerate" p) [e] [] pos) (iEnT X.K ta) := by
  refine ⟨fun pins s σ H R I h => ?_⟩
  refine Call_ (ld_blt I hg hm boot_enumerate (PyProof.Rows.callWith_type1 (thn (ha.run pos pins s σ H _ I h) fun us s1 y => ?_) hs rfl))
  obtain ⟨vs, H1, I1, r1, a, xs, rfl, hq, q⟩ := y
  cases r1 with
  | cons r rr =>
    cases rr
    cases r
    obtain ⟨its, rv, tp, _⟩ := I1.tuple hq
    refine call_t tp fun g he hit hsz hk => wpAny_pyIter_enum he ?_
    refine ⟨s1.heap.objs.size + 1, [s1.heap.objs.size + 1, s1.heap.objs.size], _, _, H1, rfl, I1.kept (t' := s1.toks) hk, turn_t a (s1.heap.objs.size + 1) s1.heap.objs.size, ⟨⟨.none, he⟩, hit, Nat.succ_ne_self _⟩, fun b hb => ?_, q⟩
    have big : s1.heap.objs.size ≤ b := by
      rcases (show b = s1.heap.objs.size + 1 ∨ b = s1.heap.objs.size by simpa using hb) with z | z
      · rw [z]; exact Nat.le_add_right _ _
      · rw [z]; exact Nat.le_refl _
    exact I1.fpOk big (I1.hok.fresh big)
end EN

set_option maxHeartbeats 2000000
namespace N8
open PySem PySem.Spec PyProof.Rows L2 Evl
open SX (S)
abbrev sHasOneAccess : Stmt := topS 87
theorem scHasOneAccess : FnScope ["flags", "word"] ["flags"] (L2.defScope sHasOneAccess) := ⟨rfl, rfl, rfl, by decide +kernel, rfl, by decide +kernel, by decide +kernel⟩
abbrev sHasFieldFlags : Stmt := topS 86
theorem scHasFieldFlags : FnScope ["field", "in_interface", "flags", "word"] ["field", "in_interface"] (L2.defScope sHasFieldFlags) := ⟨rfl, rfl, rfl, by decide +kernel, rfl, by decide +kernel, by decide +kernel⟩
abbrev sHasRightConstant : Stmt := topS 88
theorem scHasRightConstant : FnScope ["field", "_", "descriptor", "flags", "constant", "low", "high"] ["field"] (L2.defScope sHasRightConstant) := ⟨rfl, rfl, rfl, by decide +kernel, rfl, by decide +kernel, by decide +kernel⟩

def acc3 : List Str := ["public", "private", "protected"]
def hoa (w : List Str) : Bool := decide (((w.filter fun x => decide (x ∈ acc3)).length : Int) ≤ 1)
def wideF : List Str := ["public", "static", "final"]
def hff (wide : Bool) (w : List Str) : Bool := if wide = true then decide (w = wideF) else (w.all fun x => decide (x ∈ five)) && hoa w
def intIn (x : V) (lo hi : Int) : Bool := match x with
  | .int i => decide (lo ≤ i) && decide (i ≤ hi)
  | _ => false
def isIntV : V → Bool
  | .int _ => true
  | _ => false
def ints5 : List Str := ["Z", "B", "S", "C", "I"]
def hrc (d : Str) (w : List Str) (x : V) : Bool := if x = .non then true else if (!decide (("static" : Str) ∈ w)) = true then false else if decide (d ∈ ints5) = true then intIn x (-2147483648) 2147483647 else if d = "J" then isIntV x else decide (d = "LString;") && isStrV x
/-- a constant: none, a text, a number -/
inductive Con3 : V → Prop where
  | non : Con3 .non
  | str (z : Str) : Con3 (.str z)
  | int (i : Int) : Con3 (.int i)
def spHOA : Sp := fun vs H Q _ => ∃ (p : Addr) (w : List Str), vs = [.ref p] ∧ H p = some (.tup (w.map V.str)) ∧ w.length ≤ 20 ∧ RetV (.bl (hoa w)) H Q
def spHFF : Sp := fun vs H Q _ => ∃ (v : V) (m : Mem) (wide : Bool), vs = [v, .bl wide] ∧ KeptAt H v m ∧ RetV (.bl (hff wide (inOrder m.ws))) H Q
def spHRC : Sp := fun vs H Q _ => ∃ (v : V) (m : Mem), vs = [v] ∧ KeptAt H v m ∧ Con3 m.x ∧ RetV (.bl (hrc (S m.desc) (inOrder m.ws) m.x)) H Q
def dT (ws : List Str) : PyData := .tuple (ws.map .str)
theorem dT_eqv (a b : List Str) : PyData.eqv (dT a) (dT b) = decide (a = b) := by
  have e : PyData.eqv (dT a) (dT b) = PyData.eqvAll (a.map .str) (b.map .str) := by simp only [dT, PyData.eqv]
  rw [e, dWs_eqv]
theorem dT_shaped {a : List Str} (h : ∀ x ∈ a, PyData.strOk x = true) : SeqAt.shaped (dT a) = true := shaped_of (by simp only [dT, PyData.canLay0]; exact dWs_lay h) (by
  have e := dWs_depth a
  simp only [dT, PyData.depth]
  omega)
theorem inOrder_ok (w : List Str) : ∀ x ∈ inOrder w, PyData.strOk x = true := fun x hx => flags_ok x (List.mem_filter.mp hx).1
/-- the bounds of an int -/
def Bnd (K : PySem.W.Frag) (w : World) (mg : Str → Option Value) : Prop := ∃ a t, mg "BOUNDS" = some (.ref a) ∧ KDct K w a "int" (.ref t) ∧ ∀ H, SqT K H t [.int (-2147483648), .int 2147483647]
section
variable {K : PySem.W.Frag} {σ : L2.St} {H H' : Hp} {te ta tb tl : TE} {t : TT} {r : R2} {v x : V} {D : Ends} {tz tu : TS} {Q : VK}
theorem tup2 {p : Addr} {a b : V} (h : SqT K H p [a, b]) {i j : Nat} {Q : L2.St → Hp → Prop} (q : Q ((σ.set i (some a)).set j (some b)) H) : gTup K 2 (gCons (gName i) (gCons (gName j) gNil)) (.ref p) σ H Q := ⟨p, _, rfl, h, rfl, _, _, rfl, _, _, rfl, rfl, q⟩
end
section
variable {P : Program} {w : World} {K : PySem.W.Frag} {mg : Str → Option Value} {base : Heap}
theorem ok_hasOneAccess {f : Addr} {fd : FuncData} (F : FnP K "_has_one_access" sHasOneAccess f fd) (B : Bt mg) (gA : GT K mg "ACCESS" acc3) : FnOk P w K mg base L2.CX0 1 f fd ["flags"] spHOA := by
  obtain ⟨aAC, g_ACCESS, hA⟩ := gA
  refine F.ok scHasOneAccess (fun vs H Q E h => ?_) (fun cdv A outer s H vs Q E hr h => ?_)
  · obtain ⟨p, w0, rfl, _⟩ := h
    rfl
  · obtain ⟨p, w0, rfl, hp, hl, q⟩ := h
    refine ⟨_, PSs.nox (pss_one (ps_ret (pe_cmpR op_le (pe_callB call_len_seq (by rfl) B.len PySem.boot_len (pa_cons (pe_lc (own := [("word", 1)]) (g := gName 1) rfl scHasOneAccess.nd (pi_tup (pv 0)) (blkOk_by (N := ["flags", "word"]) (sc := L2.defScope sHasOneAccess) (by decide +kernel)) (fun _ _ _ _ _ => pg_name (i := 1) scHasOneAccess.nd rfl (Or.inl rfl)) (fun _ _ _ _ _ => (pts_one (pt_cmpR (r := rIn K false) op_in_seq (pv 1) (pe_glob (v := .ref aAC) (by rfl) g_ACCESS rfl) rfl))) (fun _ _ _ _ _ => (pv 1))) pa_nil)) pe_int (nomark _)))), ?_⟩
    refine s_ret (v := .bl (hoa w0)) (ev_op (ev_is (ev_lenN (xs := (w0.filter fun x => decide (x ∈ acc3)).map V.str) (el_filtW (w := w0) (fun x => decide (x ∈ acc3)) (ev_var rfl) (fun H1 x1 => st_of (x1 _ _ hp)) (by omega) (fun _ => rfl) (fun x H1 x1 _ => et_test (ev_inWT (ev_var rfl) ev_c (hA _))) (fun x H1 x1 => ev_var rfl))) (by rw [List.length_map])) ev_c rv_le) q
theorem ok_hasFieldFlags {f : Addr} {fd : FuncData} (F : FnP K "_has_field_flags" sHasFieldFlags f fd) (B : Bt mg) (gI : GT K mg "OF_INTERFACE_FIELDS" wideF) (gF : GT K mg "OF_FIELDS" five) (c_has_one_access : Cl P w K mg base L2.CX0 1 "_has_one_access" ["flags"] spHOA) :
    FnOk P w K mg base L2.CX0 2 f fd ["field", "in_interface"] spHFF := by
  obtain ⟨aIF, g_OF_INTERFACE_FIELDS, hI⟩ := gI
  obtain ⟨aOF, g_OF_FIELDS, hF⟩ := gF
  refine F.ok scHasFieldFlags (fun vs H Q E h => ?_) (fun cdv A outer s H vs Q E hr h => ?_)
  · obtain ⟨v, m, wide, rfl, _⟩ := h
    rfl
  · obtain ⟨v, m, wide, rfl, ⟨t, fl, rfl, ht, hfl⟩, q⟩ := h
    have len := inOrder_len m.ws
    refine ⟨_, PSs.nox (pss_cons (ps_set (i := 2) scHasFieldFlags.nd rfl (.inl rfl) (pe_ix ix_tup (pv 0) pe_int (fun _ _ => rfl)))
      (pss_cons (ps_if (pt_val (pv 1)) (pss_one (ps_ret (pe_cmpR (op_eqD hr.units) (pv 2) (pe_glob (v := .ref aIF) (by rfl) g_OF_INTERFACE_FIELDS rfl) (nomark _)))) pss_nil)
      (pss_one (ps_ret (pe_and (pe_callB (cr_all rfl) (by rfl) B.all (by decide +kernel) (pa_cons (pe_lc (own := [("word", 3)]) (g := gName 3) (tt := tYes) rfl scHasFieldFlags.nd (pi_tup (pv 2)) (blkOk_by (N := ["field", "in_interface", "flags", "word"]) (sc := L2.defScope sHasFieldFlags) (by decide +kernel)) (fun _ _ _ _ _ => pg_name (i := 3) scHasFieldFlags.nd rfl (Or.inl rfl)) (fun _ _ _ _ _ => pts_nil) (fun _ _ _ _ _ => (pe_cmpR (r := rIn K false) op_in_seq (pv 3) (pe_glob (v := .ref aOF) (by rfl) g_OF_FIELDS rfl) rfl))) pa_nil)) (pe_one (pe_cl c_has_one_access hr (by decide) (by rfl) (pa_cons (pv 2) pa_nil)))))))), ?_⟩
    refine q_asg (v := .ref fl) (ev_op (ev_var rfl) ev_c (rv_ixT (st_of ht) rfl)) fun H1 x1 => ?_
    refine q_when (b := wide) (et_B (ev_var rfl)) (fun e H2 x2 => ?_) (fun e H2 x2 => ?_)
    · refine s_ret (v := .bl (hff wide (inOrder m.ws))) (ev_op (ev_var rfl) ev_c fun H3 x3 Q' q' => ⟨dT (inOrder m.ws), dT wideF, .tup (st_of (((x1.trans x2).trans x3) _ _ hfl)) (dWs_dp _), .tup (hI _) (dWs_dp _), dT_shaped (inOrder_ok _), dT_shaped (by decide +kernel), ?_⟩) fun H3 x3 => q H3 ((x1.trans x2).trans x3)
      rw [dT_eqv]
      have z := q' H3 (Ex.refl H3)
      unfold hff at z
      rwa [if_pos e] at z
    · have x12 := x1.trans x2
      refine s_ret (v := .bl (hff wide (inOrder m.ws))) (ev_is (ev_andV (ev_allW (ev_var rfl) (fun H3 x3 => st_of ((x12.trans x3) _ _ hfl)) hF (by omega) (fun _ => rfl) (fun _ => rfl)) fun _ => ev_call (ea_cons (ev_var rfl) ea_nil) fun H3 e3 Q' q' E' => ⟨fl, _, rfl, (x12.trans e3) _ _ hfl, by omega, q'⟩) ?_) fun H3 x3 => q H3 (x12.trans x3)
      unfold hff
      rw [if_neg (by rw [e]; decide)]
theorem ok_hasRightConstant {f : Addr} {fd : FuncData} (F : FnP K "_has_right_constant" sHasRightConstant f fd) (B : Bt mg) (gO : GT K mg "OF_INTS" ints5) (bn : Bnd K w mg) (c_is_within : Cl P w K mg base L2.CX0 2 "is_within" ["thing", "low", "high"] spWithin) (c_is_integer : Cl P w K mg base L2.CX0 1 "is_integer" ["thing"] spInt) :
    FnOk P w K mg base L2.CX0 3 f fd ["field"] spHRC := by
  obtain ⟨aOI, g_OF_INTS, hO⟩ := gO
  obtain ⟨aBN, tB, g_BOUNDS, kd, hB⟩ := bn
  refine F.ok scHasRightConstant (fun vs H Q E h => ?_) (fun cdv A outer s H vs Q E hr h => ?_)
  · obtain ⟨v, m, rfl, _⟩ := h
    rfl
  · obtain ⟨v, m, rfl, ⟨t, fl, rfl, ht, hfl⟩, hc, q⟩ := h
    obtain ⟨mn, md, mw, mx⟩ := m
    dsimp only at ht hfl hc q
    refine ⟨_, PSs.nox (pss_cons (ps_asg (pv 0) (pg_tup rfl (pgs_cons (pg_name (i := 1) scHasRightConstant.nd rfl (.inl rfl)) (pgs_cons (pg_name (i := 2) scHasRightConstant.nd rfl (.inl rfl)) (pgs_cons (pg_name (i := 3) scHasRightConstant.nd rfl (.inl rfl)) (pgs_cons (pg_name (i := 4) scHasRightConstant.nd rfl (.inl rfl)) pgs_nil))))))
      (pss_cons (ps_if (pt_cmpR op_isN (pv 4) pe_non (nomark _)) (pss_one (ps_ret pe_bl)) pss_nil)
      (pss_cons (ps_if (pt_cmpR op_notIn_seq pe_str (pv 3) rfl) (pss_one (ps_ret pe_bl)) pss_nil)
      (pss_cons (ps_if (pt_cmpR op_in_seq (pv 2) (pe_glob (v := .ref aOI) (by rfl) g_OF_INTS rfl) rfl) (pss_cons (ps_asg (pe_ix ix_kdict (pe_glob (v := .ref aBN) (by rfl) g_BOUNDS rfl) pe_str (fun _ _ => rfl)) (pg_tup rfl (pgs_cons (pg_name (i := 5) scHasRightConstant.nd rfl (.inl rfl)) (pgs_cons (pg_name (i := 6) scHasRightConstant.nd rfl (.inl rfl)) pgs_nil))))
      (pss_one (ps_ret (pe_cl c_is_within hr (by decide) (by rfl) (pa_cons (pv 4) (pa_cons (pv 5) (pa_cons (pv 6) pa_nil))))))) pss_nil)
      (pss_cons (ps_if (pt_cmpR op_eq (pv 2) pe_str (nomark _)) (pss_one (ps_ret (pe_cl c_is_integer hr (by decide) (by rfl) (pa_cons (pv 4) pa_nil)))) pss_nil)
      (pss_one (ps_ret (pe_and (pe_cmpR op_eq (pv 2) pe_str (nomark _)) (pe_one (pe_callB call_isi (by rfl) B.isi (by decide +kernel) (pa_cons (pv 4) (pa_cons (pe_bltn (v := .ty "str") (by rfl) B.str (by decide +kernel) rfl) pa_nil)))))))))))), ?_⟩
    refine ⟨.ref t, rfl, tup4 ht ?_⟩
    dsimp only
    refine q_when (b := decide (mx = .non)) (et_test fun H1 e Q' q' => ⟨_, rfl, rfl, q' H1 (Ex.refl H1)⟩) (fun e H1 x1 => ?_) (fun e1 H1 x1 => ?_)
    · exact s_ret (v := .bl (hrc (S md) (inOrder mw) mx)) (ev_is ev_c (by unfold hrc; rw [if_pos (of_decide_eq_true e)])) fun H2 x2 => q H2 (x1.trans x2)
    have n1 := of_decide_eq_false e1
    refine q_when (b := !decide (("static" : Str) ∈ inOrder mw)) (et_test (ev_niWT ev_c (ev_var rfl) (st_of (x1 _ _ hfl)))) (fun e H2 x2 => ?_) (fun e2 H2 x2 => ?_)
    · exact s_ret (v := .bl (hrc (S md) (inOrder mw) mx)) (ev_is ev_c (by unfold hrc; rw [if_neg n1, if_pos e])) fun H3 x3 => q H3 ((x1.trans x2).trans x3)
    have x12 := x1.trans x2
    have iv : ∀ b, isIntV mx = b → IntV mx b := fun b e => by
      subst e
      cases hc with
      | non => exact .non
      | str z => exact .str z
      | int i => exact .int i
    refine q_when (b := decide (S md ∈ ints5)) (et_test (ev_inWT (ev_var rfl) ev_c (hO _))) (fun e H3 x3 => ?_) (fun e3 H3 x3 => ?_)
    · refine ⟨aBN, "int", .ref tB, rfl, rfl, kd, tup2 (hB _) ?_⟩
      refine s_ret (v := .bl (hrc (S md) (inOrder mw) mx)) (ev_call (ea_cons (ev_var rfl) (ea_cons (ev_var rfl) (ea_cons (ev_var rfl) ea_nil))) fun H4 e4 Q' q' E' => ⟨_, _, _, _, rfl, ?_, q'⟩) fun H4 x4 => q H4 ((x12.trans x3).trans x4)
      unfold hrc
      rw [if_neg n1, if_neg (by rw [e2]; decide), if_pos e]
      cases hc with
      | non => exact absurd rfl n1
      | str z => exact .inr ⟨.str z, rfl⟩
      | int i => exact .inl ⟨i, rfl, rfl⟩
    have x13 := x12.trans x3
    refine q_when (b := decide (S md = "J")) (et_test (ev_is (ev_op (ev_var rfl) ev_c (rv_eq rfl)) (bl_iff ⟨fun e => V.str.inj e, fun e => by rw [e]⟩))) (fun e H4 x4 => ?_) (fun e4 H4 x4 => ?_)
    · refine s_ret (v := .bl (hrc (S md) (inOrder mw) mx)) (ev_call (ea_cons (ev_var rfl) ea_nil) fun H5 e5 Q' q' E' => ⟨_, _, rfl, iv _ ?_, q'⟩) fun H5 x5 => q H5 ((x13.trans x4).trans x5)
      unfold hrc
      rw [if_neg n1, if_neg (by rw [e2]; decide), if_neg (by rw [e3]; decide), if_pos (of_decide_eq_true e)]
    · refine s_ret (v := .bl (hrc (S md) (inOrder mw) mx)) (ev_is (ev_andV (ev_is (ev_op (ev_var rfl) ev_c (rv_eq rfl)) (bl_iff ⟨fun e => V.str.inj e, fun e => by rw [e]⟩)) fun _ => (?_ : Ev _ _ _ (.bl (isStrV mx)))) ?_) fun H5 x5 => q H5 ((x13.trans x4).trans x5)
      · cases hc with
        | non => exact absurd rfl n1
        | str z => exact ev_isStr (ev_var rfl)
        | int i => exact ev_isi (b := false) (ev_var rfl) (.base (.int i)) (by decide +kernel)
      · unfold hrc
        rw [if_neg n1, if_neg (by rw [e2]; decide), if_neg (by rw [e3]; decide), if_neg (of_decide_eq_false e4)]
end
end N8

set_option maxHeartbeats 2000000
namespace N8
open PySem PySem.Spec PyProof.Rows L2 Evl
open SX (S)
abbrev sFaultOfFields : Stmt := topS 85
theorem scFaultOfFields : FnScope ["file", "twice", "number", "field", "name", "descriptor", "_"] ["file"] (L2.defScope sFaultOfFields) := ⟨rfl, rfl, rfl, by decide +kernel, rfl, by decide +kernel, by decide +kernel⟩

section
variable {K : PySem.W.Frag} {σ : L2.St} {H H' : Hp} {te ta tb tl : TE} {t : TT} {r : R2} {v x : V} {D : Ends} {tz tu : TS} {Q : VK}
/-- for i, x in enumerate(a tuple) -/
theorem for_enT {a : Addr} {xs : List V} {g : TG} (Pv : Nat → L2.St → Hp → Prop) (h0 : Pv 0 σ H) (hl : ∀ i σ H, Pv i σ H → SqT K H a xs)
    (hs : ∀ i x σ H T, xs[i]? = some x → Pv i σ H → H T = none → g (.ref T) σ (upd H T (.tup [.int (i : Nat), x])) fun σ2 H2 => tu { D with nx := Pv (i + 1), ct := Pv (i + 1), bk := D.nx } σ2 H2) (hd : ∀ σ H, Pv xs.length σ H → D.nx σ H) :
    ∃ W : Nat → Nat → L2.St → Hp → Prop, (∃ m, W 0 m σ H) ∧ ∀ i m σ H, W i m σ H → ((EN.Iet K a).stop i H ∧ D.nx σ H) ∨ ((EN.Iet K a).go i H ∧ ∃ N : L2.St → Hp → Prop, (∀ σ' H', N σ' H' → ∃ m', m' < m ∧ W (i + 1) m' σ' H') ∧ ∀ x H', (EN.Iet K a).yld i H x H' → g x σ H' fun σ2 H2 => tu { D with nx := N, ct := N, bk := D.nx } σ2 H2) := by
  refine ⟨fun i m σ H => m = xs.length - i ∧ i ≤ xs.length ∧ Pv i σ H, ⟨_, rfl, Nat.zero_le _, h0⟩, fun i m σ H hW => ?_⟩
  obtain ⟨em, hi, p⟩ := hW
  have q := hl i σ H p
  by_cases hlt : i < xs.length
  · refine .inr ⟨⟨xs, xs[i], q, List.getElem?_eq_getElem hlt⟩, Pv (i + 1), fun σ' H' p' => ⟨xs.length - (i + 1), by omega, rfl, hlt, p'⟩, fun v H' y => ?_⟩
    obtain ⟨T, x, e1, e2, e3, e4⟩ := y
    subst e1 e3
    exact hs i x σ H T (e4 xs q) p e2
  · obtain rfl : i = xs.length := by omega
    exact .inl ⟨⟨xs, q, Nat.le_refl _⟩, hd σ H p⟩
theorem s_forEn {a : Addr} {xs : List V} {tl : TE} {j k : Nat} (h : Ev tl σ H (.ref a)) (hx : SqT K H a xs) (Pv : Nat → L2.St → Hp → Prop) (h0 : ∀ H1, Ex H H1 → Pv 0 σ H1) (hl : ∀ i σ' H', Pv i σ' H' → SqT K H' a xs)
    (hs : ∀ i x σ' H' H2, xs[i]? = some x → Pv i σ' H' → Ex H' H2 → tu { D with nx := Pv (i + 1), ct := Pv (i + 1), bk := D.nx } ((σ'.set j (some (.int (i : Nat)))).set k (some x)) H2) (hd : ∀ σ' H', Pv xs.length σ' H' → D.nx σ' H') :
    tFor (EN.iEnT K (tCons tl tNil)) (gTup K 2 (gCons (gName j) (gCons (gName k) gNil))) tu D σ H :=
  h H (Ex.refl H) _ fun H1 e => ⟨a, xs, rfl, ex_t e hx, for_enT Pv (h0 H1 e) hl (fun i x σ' H' T hi hp hT => tup2 (st_of upd_same) (hs i x σ' H' _ hi hp (Ex.new hT))) hd⟩
theorem q_forEn {a : Addr} {xs : List V} {tl : TE} {j k : Nat} (h : Ev tl σ H (.ref a)) (hx : SqT K H a xs) (Pv : Nat → L2.St → Hp → Prop) (h0 : ∀ H1, Ex H H1 → Pv 0 σ H1) (hl : ∀ i σ' H', Pv i σ' H' → SqT K H' a xs)
    (hs : ∀ i x σ' H' H2, xs[i]? = some x → Pv i σ' H' → Ex H' H2 → tu { D with nx := Pv (i + 1), ct := Pv (i + 1), bk := tz D } ((σ'.set j (some (.int (i : Nat)))).set k (some x)) H2) (hd : ∀ σ' H', Pv xs.length σ' H' → tz D σ' H') :
    tSeq (tFor (EN.iEnT K (tCons tl tNil)) (gTup K 2 (gCons (gName j) (gCons (gName k) gNil))) tu) tz D σ H := s_forEn (D := { D with nx := tz D }) h hx Pv h0 hl hs hd
theorem lc_eachT {a : Addr} {xs : List V} {g : TG} {vs : List Nat} (Pe : V → V → Hp → Prop) (mono : ∀ {x y : V} {H H' : Hp} {D : Addr} {l : List V}, H D = some (.lst l) → Exa D H H' → Pe x y H → Pe x y H')
    (h : Ev tl σ H (.ref a)) (hx : ∀ H1, Ex H H1 → SqT K H1 a xs) (hz : xs.length ≤ 40000)
    (he : ∀ x H1, x ∈ xs → Ex H H1 → ∀ Q : VK, (∀ y H2, Ex H1 H2 → Pe x y H2 → Q y H2) → g x (wipe σ vs) H1 fun σ2 H2 => wipe σ2 vs = wipe σ vs ∧ te σ2 H2 Q)
    (k : ∀ Dl ys H1, H Dl = none → Ex H H1 → H1 Dl = some (.lst ys) → Each Pe H1 xs ys → Q (.ref Dl) H1) : tLc (iTup K tl) g tYes te vs σ H Q :=
  h H (Ex.refl H) _ fun H1 e1 => ⟨a, rfl, ⟨xs, hx _ e1⟩, fun Dl hD => by
    refine lc_tup (xs := xs) (fun i H2 => Ex H1 H2 ∧ ∃ ys, H2 Dl = some (.lst ys) ∧ ys.length = i ∧ ∀ (j : Nat) x y, xs[j]? = some x → ys[j]? = some y → Pe x y H2) ⟨Ex.new hD, [], upd_same, rfl, fun j x y _ hy => by simp at hy⟩
      (fun i H2 _ p => hx _ (e1.trans p.1)) (fun i x H2 hi p => ?_) (fun H2 p => ?_)
    · obtain ⟨p1, ys, p2, p3, p4⟩ := p
      have hil := (List.getElem?_eq_some_iff.mp hi).1
      have step := he x H2 (List.mem_of_getElem? hi) (e1.trans p1) (fun y H4 => ∃ acc, H4 Dl = some (.lst acc) ∧ acc.length < sizeLine ∧ (Ex H1 (upd H4 Dl (.lst (acc ++ [y]))) ∧ ∃ ys', (upd H4 Dl (.lst (acc ++ [y]))) Dl = some (.lst ys') ∧ ys'.length = i + 1 ∧ ∀ (j : Nat) x y', xs[j]? = some x → ys'[j]? = some y' → Pe x y' (upd H4 Dl (.lst (acc ++ [y]))))) (fun y H4 e4 hy => ?_)
      · exact step
      · have hxa : Exa Dl H4 (upd H4 Dl (.lst (ys ++ [y]))) := fun b o hb hbo => by rw [upd_ne hb]; exact hbo
        refine ⟨ys, e4 _ _ p2, sz_lt (by omega), (p1.trans e4).mut hD, _, upd_same, by rw [List.length_append, p3]; rfl, fun j x' y' hx' hy' => ?_⟩
        by_cases hj : j < ys.length
        · rw [List.getElem?_append_left hj] at hy'
          exact mono (e4 _ _ p2) hxa (mono p2 (Exa.of e4) (p4 j x' y' hx' hy'))
        · have : j = ys.length := by
            have := (List.getElem?_eq_some_iff.mp hy').1
            rw [List.length_append] at this
            simp at this
            omega
          subst this
          rw [List.getElem?_append_right (Nat.le_refl _), Nat.sub_self] at hy'
          obtain rfl : y = y' := by simpa using hy'
          rw [p3, hi] at hx'
          obtain rfl := Option.some.inj hx'
          exact mono (e4 _ _ p2) hxa hy
    · obtain ⟨p1, ys, p2, p3, p4⟩ := p
      exact k Dl ys H2 (fresh_back e1 hD) (e1.trans p1) p2 ⟨p3, p4⟩⟩
end
/-! ### names with descriptors, and which of them stand ahead -/
def keyOf (m : Mem) : List Str := [S m.name, S m.desc]
def PairAt (H : Hp) (v : V) (m : Mem) : Prop := ∃ r, v = .ref r ∧ H r = some (.tup ((keyOf m).map V.str))
theorem pairs_of {H : Hp} {ys : List V} {ms : List Mem} (h : Mems (PairAt H) ys ms) : ∃ L : List (Addr × List Str), ys = L.map (fun e => V.ref e.1) ∧ L.map (·.2) = ms.map keyOf ∧ ∀ e ∈ L, H e.1 = some (.tup (e.2.map V.str)) := by
  induction h with
  | nil => exact ⟨[], rfl, rfl, fun e he => by cases he⟩
  | cons h1 _ ih =>
    obtain ⟨r, rfl, hr⟩ := h1
    obtain ⟨L, e1, e2, e3⟩ := ih
    refine ⟨(r, _) :: L, by rw [List.map_cons, ← e1], by rw [List.map_cons, List.map_cons, e2], fun e he => ?_⟩
    rcases List.mem_cons.mp he with rfl | he
    · exact hr
    · exact e3 e he
section
variable {K : PySem.W.Frag} {σ : L2.St} {H H' : Hp} {tl : TE} {Q : VK}
/-- _stand_ahead([(name, descriptor) for name, descriptor, _, _ in members]) -/
theorem twice_of {q : Addr} {ys : List V} {ms : List Mem} {a b c : Nat} (h : Ev tl σ H (.ref q)) (hq : H q = some (.tup ys)) (hM : Mems (KeptAt H) ys ms) (hl : ms.length ≤ 4)
    (hw : ∀ x y z u, wipe (((((wipe σ [a, b, c]).set a x).set b y).set c z).set c u) [a, b, c] = wipe σ [a, b, c]) (ha : ∀ x y z u, (((((wipe σ [a, b, c]).set a x).set b y).set c z).set c u)[a]? = some x) (hb : ∀ x y z u, (((((wipe σ [a, b, c]).set a x).set b y).set c z).set c u)[b]? = some y)
    (k : ∀ p H1, Ex H H1 → H1 p = some (.lst ((ahL (ms.map keyOf)).map V.bl)) → Q (.ref p) H1) :
    tCall (spAhead K) [] L2.E0 (tCons (tLc (iTup K tl) (gTup K 4 (gCons (gName a) (gCons (gName b) (gCons (gName c) (gCons (gName c) gNil))))) tYes (tTup (tCons (tVar a) (tCons (tVar b) tNil))) [a, b, c]) tNil) σ H Q := by
  refine rd_call (rd_cons (lc_eachT (K := K) (H := H) (xs := ys) (fun x y H2 => ∀ m, KeptAt H x m → PairAt H2 y m) (fun {x y H1 H2 D l} hD xa hP m hm => ?_) h (fun H1 x1 => st_of (x1 _ _ hq)) (by rw [hM.len]; omega) (fun x H1 hx e1 Q' hQ => ?_) fun Dl zs H1 hD e1 h1 hE => rd_nil ?_))
  · obtain ⟨r, er, hr⟩ := hP m hm
    exact ⟨r, er, xa _ _ (fun z => by rw [z, hD] at hr; cases hr) hr⟩
  · obtain ⟨m, hm, t, fl, rfl, ht, hfl⟩ := hM.get hx
    refine tup4 (e1 _ _ ht) ⟨hw _ _ _ _, ?_⟩
    refine rd_tup (rd_cons (rd_ev (ev_var (ha _ _ _ _)) fun H2 e2 => rd_cons (rd_ev (ev_var (hb _ _ _ _)) fun H3 e3 => rd_nil ⟨by show 2 ≤ sizeLine; decide, fun p hp => ?_⟩)))
    refine hQ (.ref p) _ ((e2.trans e3).trans (Ex.new hp)) fun m' hm' => ⟨p, rfl, ?_⟩
    obtain ⟨t', fl', et, ht', _⟩ := hm'
    cases et
    have e := ht.symm.trans ht'
    simp only [Option.some.injEq, HO.tup.injEq, List.cons.injEq, V.str.injEq] at e
    rw [upd_same, e.1, e.2.1]
    rfl
  · have hP : Mems (PairAt H1) zs ms := Mems.map hM hE.1 fun i x y hx hy m hm => hE.2 i x y hx hy m hm
    obtain ⟨L, eL, eK, hL⟩ := pairs_of hP
    refine .inr ⟨Dl, L, rfl, by rw [h1, eL], hL, ?_, fun p H2 hp x2 h2 => ?_⟩
    · have := congrArg List.length eK
      rw [List.length_map, List.length_map] at this
      omega
    · rw [eK] at h2
      exact k p H2 (e1.trans x2) h2
end
def firstDue (part : Str) (f : Nat → Option Str) : Nat → Nat → Due3
  | 0, _ => none
  | n + 1, i => match f i with
    | some z => some (z, part, (i : Int))
    | none => firstDue part f n (i + 1)
def fldW (wide : Bool) (ms : List Mem) (i : Nat) (m : Mem) : Option Str := if (!hff wide (inOrder m.ws)) = true then some "flags" else if isAh (ms.map keyOf) i = true then some "twice" else if (!hrc (S m.desc) (inOrder m.ws) m.x) = true then some "constant" else none
def fldWord (wide : Bool) (ms : List Mem) (i : Nat) : Option Str := match ms[i]? with
  | none => none
  | some m => fldW wide ms i m
def pFields (wide : Bool) (ms : List Mem) : Due3 := firstDue "field" (fldWord wide ms) ms.length 0
def isWide (d : CD) : Bool := decide (("interface" : Str) ∈ inOrder d.ws)
def spFFields (K : PySem.W.Frag) : Sp := fun vs H Q _ => ∃ (a : Addr) (d : CD), vs = [.ref a] ∧ FileAt K H a d ∧ d.fields.length ≤ 4 ∧ (∀ m ∈ d.fields, Con3 m.x) ∧ RetD (pFields (isWide d) d.fields) H Q
theorem ahL_at {α : Type} [DecidableEq α] {l : List α} {i : Nat} (h : i < l.length) : (ahL l)[i]? = some (isAh l i) := by
  unfold ahL
  rw [List.getElem?_map, List.getElem?_range h]; rfl
section
variable {P : Program} {w : World} {K : PySem.W.Frag} {mg : Str → Option Value} {base : Heap}
theorem ok_faultOfFields {f : Addr} {fd : FuncData} (F : FnP K "_fault_of_fields" sFaultOfFields f fd) (B : Bt mg) (cf : CFK K) (c_stand_ahead : Cl P w K mg base L2.CX0 1 "_stand_ahead" ["things"] (spAhead K)) (c_has_field_flags : Cl P w K mg base L2.CX0 2 "_has_field_flags" ["field", "in_interface"] spHFF)
    (c_has_right_constant : Cl P w K mg base L2.CX0 3 "_has_right_constant" ["field"] spHRC) : FnOk P w K mg base L2.CX0 4 f fd ["file"] (spFFields K) := by
  refine F.ok scFaultOfFields (fun vs H Q E h => ?_) (fun cdv A outer s H vs Q E hr h => ?_)
  · obtain ⟨a, d, rfl, _⟩ := h
    rfl
  · obtain ⟨a, d, rfl, fa, hl, hcon, q⟩ := h
    obtain ⟨dx, fs, ha, qi, qw, qf, qm, yf, ym, l1, l2, l3, l4, l5, l6, h7, h8, h9, h10, h11, h12⟩ := fa
    refine ⟨_, PSs.nox (pss_cons (ps_set (i := 1) scFaultOfFields.nd rfl (.inl rfl) (pe_cl c_stand_ahead hr (by decide) (by rfl) (pa_cons (pe_lc (own := [("name", 4), ("descriptor", 5), ("_", 6)]) (g := gTup K 4 (gCons (gName 4) (gCons (gName 5) (gCons (gName 6) (gCons (gName 6) gNil))))) (tt := tYes) rfl scFaultOfFields.nd (pi_tup (pe_fld (pv 0) rfl)) (blkOk_by (N := ["file", "twice", "number", "field", "name", "descriptor", "_"]) (sc := L2.defScope sFaultOfFields) (by decide +kernel)) (fun _ _ _ _ _ => (pg_tup rfl (pgs_cons (pg_name (i := 4) scFaultOfFields.nd rfl (.inl rfl)) (pgs_cons (pg_name (i := 5) scFaultOfFields.nd rfl (.inl rfl)) (pgs_cons (pg_name (i := 6) scFaultOfFields.nd rfl (.inl rfl)) (pgs_cons (pg_name (i := 6) scFaultOfFields.nd rfl (.inl rfl)) pgs_nil)))))) (fun _ _ _ _ _ => pts_nil) (fun _ _ _ _ _ => (pe_tup (pa_cons (pv 4) (pa_cons (pv 5) pa_nil))))) pa_nil)))
      (pss_cons (ps_for PassesOwn.never rfl (EN.pi_enT (by rfl) B.enumerate (pa_cons (pe_fld (pv 0) rfl) pa_nil)) (pg_tup rfl (pgs_cons (pg_name (i := 2) scFaultOfFields.nd rfl (.inl rfl)) (pgs_cons (pg_name (i := 3) scFaultOfFields.nd rfl (.inl rfl)) pgs_nil))) (pss_cons (ps_if (pt_not (pt_val (pe_cl c_has_field_flags hr (by decide) (by rfl) (pa_cons (pv 3) (pa_cons (pe_cmpR op_in_seq pe_str (pe_fld (pv 0) rfl) rfl) pa_nil))))) (pss_one (ps_ret (pe_tup (pa_cons pe_str (pa_cons pe_str (pa_cons (pv 2) pa_nil)))))) pss_nil)
      (pss_cons (ps_if (pt_val (pe_ix ix_list (pv 1) (pv 2) (fun _ _ => rfl))) (pss_one (ps_ret (pe_tup (pa_cons pe_str (pa_cons pe_str (pa_cons (pv 2) pa_nil)))))) pss_nil)
      (pss_one (ps_if (pt_not (pt_val (pe_cl c_has_right_constant hr (by decide) (by rfl) (pa_cons (pv 3) pa_nil)))) (pss_one (ps_ret (pe_tup (pa_cons pe_str (pa_cons pe_str (pa_cons (pv 2) pa_nil)))))) pss_nil)))))
      (pss_one (ps_ret pe_non)))), ?_⟩
    have fl : ∀ {σ' : L2.St} {H1 : Hp} {x : Str} {v : V}, σ'[0]? = some (some (.ref a)) → Ex H H1 → x ∈ (["name", "parent", "interfaces", "flags", "fields", "methods"] : List Str) → fs.lookup x = some v → Ev (tFld K (tVar 0) x) σ' H1 v := fun h0 x1 hm hl => ev_fld (ev_var h0) (x1 _ _ ha) cf.c (cf.no _ hm) hl
    have len := inOrder_len d.ws
    refine q_asgAny (twice_of (fl rfl (Ex.refl H) (by decide) l5) h9 h10 hl (fun _ _ _ _ => rfl) (fun _ _ _ _ => rfl) (fun _ _ _ _ => rfl) fun pT H1 x1 hT => ?_)
    refine q_forEn (xs := yf) (fl rfl x1 (by decide) l5) (st_of (x1 _ _ h9)) (fun i σ' H' => Ex H1 H' ∧ pFields (isWide d) d.fields = firstDue "field" (fldWord (isWide d) d.fields) (d.fields.length - i) i ∧ i ≤ d.fields.length ∧ ∃ v2 v3 v4 v5 v6, σ' = [some (.ref a), some (.ref pT), v2, v3, v4, v5, v6])
      (fun H2 x2 => ⟨x2, rfl, Nat.zero_le _, none, none, none, none, none, rfl⟩) (fun i σ' H' hP => st_of ((x1.trans hP.1) _ _ h9)) (fun i x σ' H' H3 hx hP x3 => ?_) (fun σ' H' hP => ?_)
    · obtain ⟨e, ep, hi, v2, v3, v4, v5, v6, rfl⟩ := hP
      obtain ⟨m, hm, hk⟩ := h10.at hx
      have hil : i < d.fields.length := (List.getElem?_eq_some_iff.mp hm).1
      have H3e : Ex H1 H3 := e.trans x3
      have eT : Ex H H3 := x1.trans H3e
      have e0 : fldWord (isWide d) d.fields i = fldW (isWide d) d.fields i m := by
        unfold fldWord
        rw [hm]
      unfold fldW at e0
      have ep2 : firstDue "field" (fldWord (isWide d) d.fields) (d.fields.length - i) i = match fldWord (isWide d) d.fields i with
          | some z => some (z, "field", (i : Int))
          | none => firstDue "field" (fldWord (isWide d) d.fields) (d.fields.length - (i + 1)) (i + 1) := by
        obtain ⟨n, hn⟩ : ∃ n, d.fields.length - i = n + 1 := ⟨d.fields.length - i - 1, by omega⟩
        rw [hn, show d.fields.length - (i + 1) = n by omega]
        rfl
      refine q_when (b := !hff (isWide d) (inOrder m.ws)) (et_not (et_test (ev_call (ea_cons (ev_var rfl) (ea_cons (ev_inWT ev_c (fl rfl eT (by decide) l4) (st_of (eT _ _ h8))) ea_nil)) fun H4 e4 Q' q' E' => ⟨x, m, isWide d, rfl, hk.ex (eT.trans e4), q'⟩))) (fun e1 H4 x4 => ?_) (fun e1 H4 x4 => ?_)
      · rw [ep, ep2, e0, if_pos e1] at q
        exact s_retU (eu_tup (vs := [.str "flags", .str "field", .int (i : Int)]) (ea_cons ev_c (ea_cons ev_c (ea_cons (ev_var rfl) ea_nil))) (by show 3 ≤ 100000; decide)) fun r H6 hr6 x6 h6 => q r H6 (fresh_back (eT.trans x4) hr6) ((eT.trans x4).trans x6) h6
      have y4 := eT.trans x4
      have hT4 : H4 pT = some (.lst ((ahL (d.fields.map keyOf)).map V.bl)) := (H3e.trans x4) _ _ hT
      have hat : ((ahL (d.fields.map keyOf)).map V.bl)[i]? = some (V.bl (isAh (d.fields.map keyOf) i)) := by
        rw [List.getElem?_map, ahL_at (by rw [List.length_map]; exact hil)]; rfl
      refine q_when (b := isAh (d.fields.map keyOf) i) (et_B (ev_op (ev_var rfl) (ev_var rfl) (rv_ixL (sq_of hT4) (atI_nat hat)))) (fun e2 H5 x5 => ?_) (fun e2 H5 x5 => ?_)
      · rw [ep, ep2, e0, if_neg (by rw [e1]; decide), if_pos e2] at q
        exact s_retU (eu_tup (vs := [.str "twice", .str "field", .int (i : Int)]) (ea_cons ev_c (ea_cons ev_c (ea_cons (ev_var rfl) ea_nil))) (by show 3 ≤ 100000; decide)) fun r H6 hr6 x6 h6 => q r H6 (fresh_back (y4.trans x5) hr6) ((y4.trans x5).trans x6) h6
      have y5 := y4.trans x5
      refine s_when (b := !hrc (S m.desc) (inOrder m.ws) m.x) (et_not (et_test (ev_call (ea_cons (ev_var rfl) ea_nil) fun H6 e6 Q' q' E' => ⟨x, m, rfl, hk.ex (y5.trans e6), hcon m (List.mem_of_getElem? hm), q'⟩))) (fun e3 H6 x6 => ?_) (fun e3 H6 x6 => ⟨((H3e.trans x4).trans x5).trans x6, ?_, by omega, _, _, _, _, _, rfl⟩)
      · rw [ep, ep2, e0, if_neg (by rw [e1]; decide), if_neg (by rw [e2]; decide), if_pos e3] at q
        exact s_retU (eu_tup (vs := [.str "constant", .str "field", .int (i : Int)]) (ea_cons ev_c (ea_cons ev_c (ea_cons (ev_var rfl) ea_nil))) (by show 3 ≤ 100000; decide)) fun r H7 hr7 x7 h7 => q r H7 (fresh_back (y5.trans x6) hr7) ((y5.trans x6).trans x7) h7
      · rw [ep, ep2, e0, if_neg (by rw [e1]; decide), if_neg (by rw [e2]; decide), if_neg (by rw [e3]; decide)]
    · obtain ⟨e, ep, hi, v2, v3, v4, v5, v6, rfl⟩ := hP
      rw [h10.len, Nat.sub_self] at ep
      rw [ep] at q
      exact s_ret ev_c fun H6 x6 => q H6 ((x1.trans e).trans x6)
end
end N8

set_option maxHeartbeats 2000000
namespace N8
open PySem PySem.Spec PyProof.Rows L2 Evl
open SX (S)
abbrev sParameters : Stmt := topS 24
theorem scParameters : FnScope ["descriptor", "parts"] ["descriptor"] (L2.defScope sParameters) := ⟨rfl, rfl, rfl, by decide +kernel, rfl, by decide +kernel, by decide +kernel⟩
abbrev sHasMethodFlags : Stmt := topS 91
theorem scHasMethodFlags : FnScope ["method", "in_interface", "name", "_", "flags", "word"] ["method", "in_interface"] (L2.defScope sHasMethodFlags) := ⟨rfl, rfl, rfl, by decide +kernel, rfl, by decide +kernel, by decide +kernel⟩
abbrev sMayStandInInterface : Stmt := topS 92
theorem scMayStandInInterface : FnScope ["flags", "word"] ["flags"] (L2.defScope sMayStandInInterface) := ⟨rfl, rfl, rfl, by decide +kernel, rfl, by decide +kernel, by decide +kernel⟩
abbrev sHasRightResult : Stmt := topS 93
theorem scHasRightResult : FnScope ["method", "name", "descriptor", "_"] ["method"] (L2.defScope sHasRightResult) := ⟨rfl, rfl, rfl, by decide +kernel, rfl, by decide +kernel, by decide +kernel⟩
abbrev sHasCodeAsTold : Stmt := topS 94
theorem scHasCodeAsTold : FnScope ["method", "_", "flags", "code"] ["method"] (L2.defScope sHasCodeAsTold) := ⟨rfl, rfl, rfl, by decide +kernel, rfl, by decide +kernel, by decide +kernel⟩
abbrev sHasRoom : Stmt := topS 95
theorem scHasRoom : FnScope ["method", "_", "descriptor", "flags", "code", "own"] ["method"] (L2.defScope sHasRoom) := ⟨rfl, rfl, rfl, by decide +kernel, rfl, by decide +kernel, by decide +kernel⟩
abbrev sWordForMethod : Stmt := topS 90
theorem scWordForMethod : FnScope ["method", "in_interface", "stands_ahead"] ["method", "in_interface", "stands_ahead"] (L2.defScope sWordForMethod) := ⟨rfl, rfl, rfl, by decide +kernel, rfl, by decide +kernel, by decide +kernel⟩

theorem cut_last (xs : List V) : cutV xs none (some (-1)) = xs.dropLast := by
  unfold cutV
  rw [HT.sIx_none, List.drop_zero, Nat.sub_zero]
  have e : HT.sIx xs.length xs.length (some (-1)) = xs.length - 1 := by
    show (if (-1 : Int) < 0 then ((-1 : Int) + (xs.length : Int)).toNat else min (-1 : Int).toNat xs.length) = _
    rw [if_pos (by decide)]
    omega
  rw [e, List.dropLast_eq_take]
theorem parts_ne {l : List Nat} {ps : List (List Nat)} (h : partsL l = some ps) : ∃ acc last, ps = acc ++ [last] := by
  unfold partsL at h
  split at h
  · cases hR : loopP l (l.length + 1) 1 [] with
    | none =>
      rw [hR] at h
      cases h
    | some r =>
      obtain ⟨acc, a⟩ := r
      rw [hR] at h
      by_cases c : placesL acc > 254 ∨ (l.drop (a + 1) ≠ [86] ∧ isFieldL (l.drop (a + 1)) = false)
      · rw [finL_no c] at h
        cases h
      · rw [finL_ok c] at h
        exact ⟨acc, _, (Option.some.inj h).symm⟩
  · cases h
theorem loopP_len {l : List Nat} : ∀ (n a : Nat) (acc : List (List Nat)) {r : List (List Nat) × Nat}, loopP l n a acc = some r → r.1.length ≤ acc.length + n
  | 0, _, _, _, h => by cases h
  | n + 1, a, acc, r, h => by
    unfold loopP at h
    split at h
    · cases e : fend l a with
      | none => rw [e] at h; cases h
      | some k =>
        rw [e] at h
        have := loopP_len n k _ h
        rw [List.length_append, List.length_singleton] at this
        omega
    · obtain rfl := Option.some.inj h
      exact Nat.le_add_right _ _
theorem parts_len {l : List Nat} {ps : List (List Nat)} (h : partsL l = some ps) : ps.length ≤ l.length + 2 := by
  unfold partsL at h
  split at h
  · cases hR : loopP l (l.length + 1) 1 [] with
    | none => rw [hR] at h; cases h
    | some r =>
      have := loopP_len _ _ _ hR
      obtain ⟨acc, a⟩ := r
      rw [hR] at h
      by_cases c : placesL acc > 254 ∨ (l.drop (a + 1) ≠ [86] ∧ isFieldL (l.drop (a + 1)) = false)
      · rw [finL_no c] at h; cases h
      · rw [finL_ok c] at h
        rw [← Option.some.inj h, List.length_append, List.length_singleton]
        simp at this
        omega
  · cases h
def spParams : Sp := fun vs H Q _ => ∃ (l : List Nat) (ps : List (List Nat)), vs = [.str (S l)] ∧ l.length ≤ 10000 ∧ partsL l = some ps ∧ RetL (ps.dropLast.map N8.vs) H Q
def spResult : Sp := fun vs H Q _ => ∃ (l : List Nat) (acc : List (List Nat)) (last : List Nat), vs = [.str (S l)] ∧ l.length ≤ 10000 ∧ partsL l = some (acc ++ [last]) ∧ RetV (N8.vs last) H Q
def nwa : List Str := ["private", "static", "final", "synchronized", "native"]
def nii : List Str := ["protected", "final", "synchronized", "native"]
def msi (w : List Str) : Bool := if (w.any fun x => decide (x ∈ nii)) = true then false else decide (("public" : Str) ∈ w) || decide (("private" : Str) ∈ w)
def hmf (wide : Bool) (name : Str) (w : List Str) : Bool :=
  if name = "<clinit>" then decide (w = (["static"] : List Str))
  else if (decide (("interface" : Str) ∈ w) || !hoa w) = true then false
  else if (decide (name = "<init>") && !(w.all fun x => decide (x ∈ acc3))) = true then false
  else if (decide (("abstract" : Str) ∈ w) && (w.any fun x => decide (x ∈ nwa))) = true then false
  else !wide || msi w
def hrr (name : Str) (d last : List Nat) : Bool := if name = "<clinit>" then decide (N8.vs d = .str "()V") else !decide (name = "<init>") || decide (N8.vs last = .str "V")
def hct (w : List Str) (x : V) : Bool := decide (V.bl (decide (x = .non)) = V.bl (decide (("abstract" : Str) ∈ w) || decide (("native" : Str) ∈ w)))
/-- what a method has: none, an Uncut, or a Code with so many places -/
def CodeAt (K : PySem.W.Frag) (H : Hp) (x : V) (c : Bool) (hi : Int) : Prop := (x = .non ∧ c = false) ∨ (∃ a dx fs, x = .ref a ∧ H a = some (.ins (cl K "Code") dx fs) ∧ List.lookup ("places" : Str) fs = some (V.int hi) ∧ c = true) ∨ ∃ a dx fs, x = .ref a ∧ H a = some (.ins (cl K "Uncut") dx fs) ∧ c = false
theorem CodeAt.v {K : PySem.W.Frag} {H : Hp} {x : V} {c : Bool} {hi : Int} (h : CodeAt K H x c hi) : CodeV K H x := by
  rcases h with ⟨h, _⟩ | ⟨a, dx, fs, h1, h2, _⟩ | ⟨a, dx, fs, h1, h2, _⟩
  · exact .inl h
  · exact .inr (.inl ⟨a, dx, fs, h1, h2⟩)
  · exact .inr (.inr ⟨a, dx, fs, h1, h2⟩)
theorem CodeAt.ex {K : PySem.W.Frag} {H H' : Hp} {x : V} {c : Bool} {hi : Int} (h : CodeAt K H x c hi) (e : Ex H H') : CodeAt K H' x c hi := by
  rcases h with h | ⟨a, dx, fs, h1, h2, h3⟩ | ⟨a, dx, fs, h1, h2, h3⟩
  · exact .inl h
  · exact .inr (.inl ⟨a, dx, fs, h1, e _ _ h2, h3⟩)
  · exact .inr (.inr ⟨a, dx, fs, h1, e _ _ h2, h3⟩)
def roomB (ps : List (List Nat)) (w : List Str) (c : Bool) (hi : Int) : Bool := if (!c) = true then true else decide (placesL ps.dropLast + (if decide (("static" : Str) ∈ w) = true then 0 else 1) ≤ hi)
def spHOA2 (g : List Str → Bool) : Sp := fun vs H Q _ => ∃ (p : Addr) (w : List Str), vs = [.ref p] ∧ H p = some (.tup (w.map V.str)) ∧ w.length ≤ 20 ∧ RetV (.bl (g w)) H Q
def spHMF : Sp := fun vs H Q _ => ∃ (v : V) (m : Mem) (wide : Bool), vs = [v, .bl wide] ∧ KeptAt H v m ∧ RetV (.bl (hmf wide (S m.name) (inOrder m.ws))) H Q
def spHRR : Sp := fun vs H Q _ => ∃ (v : V) (m : Mem) (acc : List (List Nat)) (last : List Nat), vs = [v] ∧ KeptAt H v m ∧ m.desc.length ≤ 10000 ∧ partsL m.desc = some (acc ++ [last]) ∧ RetV (.bl (hrr (S m.name) m.desc last)) H Q
def spHCT (K : PySem.W.Frag) : Sp := fun vs H Q _ => ∃ (v : V) (m : Mem), vs = [v] ∧ KeptAt H v m ∧ CodeV K H m.x ∧ RetV (.bl (hct (inOrder m.ws) m.x)) H Q
def spRoom (K : PySem.W.Frag) : Sp := fun vs H Q _ => ∃ (v : V) (m : Mem) (ps : List (List Nat)) (c : Bool) (hi : Int), vs = [v] ∧ KeptAt H v m ∧ CodeAt K H m.x c hi ∧ m.desc.length ≤ 10000 ∧ partsL m.desc = some ps ∧ RetV (.bl (roomB ps (inOrder m.ws) c hi)) H Q
structure CU2 (K : PySem.W.Frag) (mg : Str → Option Value) : Prop extends CU K mg where
  c : Cls K (cl K "Code")
  np : NoAttr K (cl K "Code") "places"
  nN : PySem.W.kitOne K (.type "NoneType") (.ref (cl K "Code")) = some false
section
variable {K : PySem.W.Frag} {σ : L2.St} {H H' : Hp} {te ta tb tl : TE} {t : TT} {v x : V} {D : Ends} {tz tu : TS} {Q : VK}
theorem ev_any {bs : List Bool} (h : EvL te σ H (bs.map V.bl)) : Ev (tCB (rAny K) (tCons te tNil)) σ H (.bl (bs.any id)) := fun H1 e Q q =>
  h H1 e _ fun p H2 hp e2 h2 => ⟨p, bs, rfl, sq_of h2, q H2 e2⟩
theorem any_map {α : Type} (l : List α) (f : α → Bool) : (l.map f).any id = l.any f := by
  rw [List.any_map]; rfl
theorem ev_anyW {p a : Addr} {w l : List Str} {j : Nat} {vs : List Nat} (h : Ev tl σ H (.ref p)) (hp : ∀ H1, Ex H H1 → SqT K H1 p (w.map V.str)) (ha : ∀ H1, SqT K H1 a (l.map V.str)) (hz : w.length ≤ 40000) (hw : ∀ x, wipe ((wipe σ vs).set j (some x)) vs = wipe σ vs) (hj : ∀ x, ((wipe σ vs).set j (some x))[j]? = some (some x)) :
    Ev (tCB (rAny K) (tCons (tLc (iTup K tl) (gName j) tYes (tOp (rIn K false) (tVar j) (tC (.ref a))) vs) tNil)) σ H (.bl (w.any fun x => decide (x ∈ l))) := by
  rw [show (w.any fun x => decide (x ∈ l)) = (w.map fun x => decide (x ∈ l)).any id from (any_map w fun x => decide (x ∈ l)).symm]
  refine ev_any (bs := w.map fun x => decide (x ∈ l)) ?_
  rw [← map_bl]
  exact el_mapW (fun x => V.bl (decide (x ∈ l))) h hp hz hw fun x H1 x1 hx => ev_inWT (ev_var (hj _)) ev_c (ha _)
theorem ev_eqSV {z1 z2 : Str} (h : Ev te σ H (.str z1)) : Ev (tOp rEq te (tC (.str z2))) σ H (.bl (decide (z1 = z2))) := ev_is (ev_op h ev_c (rv_eq rfl)) (bl_iff ⟨fun e => V.str.inj e, fun e => by rw [e]⟩)
theorem ev_neSV {z1 z2 : Str} (h : Ev te σ H (.str z1)) : Ev (tOp rNe te (tC (.str z2))) σ H (.bl (!decide (z1 = z2))) := ev_is (ev_op h ev_c (rv_ne rfl)) (congrArg V.bl (congrArg not (decide_eq_decide.mpr ⟨fun e => V.str.inj e, fun e => by rw [e]⟩)))
theorem ev_isNon (h : Ev te σ H x) : Ev (tOp (fun x y H Q => y = V.non ∧ Q (.bl (decide (x = V.non))) H) te (tC .non)) σ H (.bl (decide (x = .non))) := fun H1 e Q q => h H1 e _ fun H2 e2 => ⟨rfl, q H2 e2⟩
theorem ev_isNone {C : Addr} {b : Bool} (h : Ev te σ H .non) (k : PySem.W.kitOne K (.type "NoneType") (.ref C) = some b) : Ev (tCB (rIsi K) (tCons te (tCons (tC (.ref C)) tNil))) σ H (.bl b) := fun H1 e Q q =>
  h H1 e _ fun H2 e2 => ⟨.non, .ref C, .type "NoneType", .ref C, b, rfl, .own C, .base .non, k, q H2 e2⟩
theorem ev_isCode {mg : Str → Option Value} {c : Bool} {hi : Int} (cu : CU2 K mg) (h : Ev te σ H x) (hx : CodeAt K H x c hi) : Ev (tCB (rIsi K) (tCons te (tCons (tC (.ref (cl K "Code"))) tNil))) σ H (.bl c) := by
  rcases hx with ⟨rfl, rfl⟩ | ⟨a, dx, fs, rfl, ha, _, rfl⟩ | ⟨a, dx, fs, rfl, ha, rfl⟩
  · exact ev_isNone h cu.nN
  · exact ev_isC h ha cu.iC cu.iC.me
  · exact ev_isC h ha cu.iU cu.no
end
section
variable {P : Program} {w : World} {K : PySem.W.Frag} {mg : Str → Option Value} {base : Heap}
theorem ok_params {f : Addr} {fd : FuncData} (F : FnP K "parameters" sParameters f fd) (B : Bt mg) (c_method_parts : Cl P w K mg base L2.CX0 6 "_method_parts" ["thing"] (spParts K)) : FnOk P w K mg base L2.CX0 7 f fd ["descriptor"] spParams := by
  refine F.ok scParameters (fun vs H Q E h => ?_) (fun cdv A outer s H vs Q E hr h => ?_)
  · obtain ⟨l, ps, rfl, _⟩ := h
    rfl
  · obtain ⟨l, ps, rfl, hl, hp, q⟩ := h
    refine ⟨_, PSs.nox (pss_cons (ps_set (i := 1) scParameters.nd rfl (.inl rfl) (pe_cl c_method_parts hr (by decide) (by rfl) (pa_cons (pv 0) pa_nil)))
      (pss_cons (ps_if (pt_cmpR op_isN (pv 1) pe_non (nomark _)) (pss_one ps_never) pss_nil)
      (pss_one (ps_ret (pe_slice sl_list (pv 1) po_none (po_some (pe_un un_neg pe_int))))))), ?_⟩
    refine q_asgAny (rd_call (rd_cons (rd_ev (ev_var rfl) fun H0 x0 => rd_nil ⟨_, _, rfl, .inl ⟨l, rfl, by omega, rfl⟩, ?_⟩)))
    rw [hp]
    intro p H1 hp1 x1 h1
    refine q_when (b := false) (et_test (ev_op (ev_var rfl) ev_c (fun H2 _ Q q => ⟨rfl, q H2 (Ex.refl H2)⟩))) (fun e => by cases e) (fun e H2 x2 => ?_)
    refine s_retL (el_sl (lo := none) (hi := some (-1)) (ev_var rfl) eo_none (eo_some (ev_un ev_c ru_neg)) (sq_of (x2 _ _ h1))) fun p2 H3 hp2 x3 h3 => q p2 H3 (fresh_back ((x0.trans x1).trans x2) hp2) (((x0.trans x1).trans x2).trans x3) ?_
    rw [h3, cut_last, List.map_dropLast]
theorem ok_result {f : Addr} {fd : FuncData} (F : FnP K "result" sResult f fd) (B : Bt mg) (c_method_parts : Cl P w K mg base L2.CX0 6 "_method_parts" ["thing"] (spParts K)) : FnOk P w K mg base L2.CX0 7 f fd ["descriptor"] spResult := by
  refine F.ok scResult (fun vs H Q E h => ?_) (fun cdv A outer s H vs Q E hr h => ?_)
  · obtain ⟨l, acc, last, rfl, _⟩ := h
    rfl
  · obtain ⟨l, acc, last, rfl, hl, hp, q⟩ := h
    refine ⟨_, PSs.nox (pss_cons (ps_set (i := 1) scResult.nd rfl (.inl rfl) (pe_cl c_method_parts hr (by decide) (by rfl) (pa_cons (pv 0) pa_nil)))
      (pss_cons (ps_if (pt_cmpR op_isN (pv 1) pe_non (nomark _)) (pss_one ps_never) pss_nil)
      (pss_one (ps_ret (pe_ix ix_list (pv 1) (pe_un un_neg pe_int) (fun _ _ => rfl)))))), ?_⟩
    refine q_asgAny (rd_call (rd_cons (rd_ev (ev_var rfl) fun H0 x0 => rd_nil ⟨_, _, rfl, .inl ⟨l, rfl, by omega, rfl⟩, ?_⟩)))
    rw [hp]
    intro p H1 hp1 x1 h1
    refine q_when (b := false) (et_test (ev_op (ev_var rfl) ev_c (fun H2 _ Q q => ⟨rfl, q H2 (Ex.refl H2)⟩))) (fun e => by cases e) (fun e H2 x2 => ?_)
    refine s_ret (v := N8.vs last) (ev_op (ev_var rfl) (ev_un ev_c ru_neg) (rv_ixL (sq_of (x2 _ _ h1)) ?_)) fun H3 x3 => q H3 (((x0.trans x1).trans x2).trans x3)
    show atI ((acc ++ [last]).map N8.vs) (-1) = _
    rw [List.map_append]
    exact atI_last _ _
theorem ok_mayStand {f : Addr} {fd : FuncData} (F : FnP K "_may_stand_in_interface" sMayStandInInterface f fd) (B : Bt mg) (gN : GT K mg "NOT_IN_INTERFACES" nii) : FnOk P w K mg base L2.CX0 1 f fd ["flags"] (spHOA2 msi) := by
  obtain ⟨aNI, g_NOT_IN_INTERFACES, hN⟩ := gN
  refine F.ok scMayStandInInterface (fun vs H Q E h => ?_) (fun cdv A outer s H vs Q E hr h => ?_)
  · obtain ⟨p, w0, rfl, _⟩ := h
    rfl
  · obtain ⟨p, w0, rfl, hp, hl, q⟩ := h
    refine ⟨_, PSs.nox (pss_cons (ps_if (pt_val (pe_callB (cr_any rfl) (by rfl) B.any (by decide +kernel) (pa_cons (pe_lc (own := [("word", 1)]) (g := gName 1) (tt := tYes) rfl scMayStandInInterface.nd (pi_tup (pv 0)) (blkOk_by (N := ["flags", "word"]) (sc := L2.defScope sMayStandInInterface) (by decide +kernel)) (fun _ _ _ _ _ => pg_name (i := 1) scMayStandInInterface.nd rfl (Or.inl rfl)) (fun _ _ _ _ _ => pts_nil) (fun _ _ _ _ _ => (pe_cmpR (r := rIn K false) op_in_seq (pv 1) (pe_glob (v := .ref aNI) (by rfl) g_NOT_IN_INTERFACES rfl) rfl))) pa_nil))) (pss_one (ps_ret pe_bl)) pss_nil)
      (pss_one (ps_ret (pe_or (pe_cmpR op_in_seq pe_str (pv 0) rfl) (pe_one (pe_cmpR op_in_seq pe_str (pv 0) rfl)))))), ?_⟩
    refine q_when (b := w0.any fun x => decide (x ∈ nii)) (et_test (ev_anyW (ev_var rfl) (fun H1 x1 => st_of (x1 _ _ hp)) hN (by omega) (fun _ => rfl) (fun _ => rfl))) (fun e H1 x1 => ?_) (fun e H1 x1 => ?_)
    · exact s_ret (v := .bl (msi w0)) (ev_is ev_c (by unfold msi; rw [if_pos e])) fun H2 x2 => q H2 (x1.trans x2)
    · refine s_ret (v := .bl (msi w0)) (ev_is (ev_orV (ev_inWT ev_c (ev_var rfl) (st_of (x1 _ _ hp))) fun _ => ev_inWT ev_c (ev_var rfl) (st_of (x1 _ _ hp))) ?_) fun H2 x2 => q H2 (x1.trans x2)
      unfold msi
      rw [if_neg (by rw [e]; decide)]
theorem ok_hasMethodFlags {f : Addr} {fd : FuncData} (F : FnP K "_has_method_flags" sHasMethodFlags f fd) (B : Bt mg) (gA : GT K mg "ACCESS" acc3) (gN : GT K mg "NOT_WITH_ABSTRACT" nwa) (c_has_one_access : Cl P w K mg base L2.CX0 1 "_has_one_access" ["flags"] spHOA) (c_may_stand_in_interface : Cl P w K mg base L2.CX0 1 "_may_stand_in_interface" ["flags"] (spHOA2 msi)) :
    FnOk P w K mg base L2.CX0 2 f fd ["method", "in_interface"] spHMF := by
  obtain ⟨aAC, g_ACCESS, hA⟩ := gA
  obtain ⟨aNA, g_NOT_WITH_ABSTRACT, hN⟩ := gN
  refine F.ok scHasMethodFlags (fun vs H Q E h => ?_) (fun cdv A outer s H vs Q E hr h => ?_)
  · obtain ⟨v, m, wide, rfl, _⟩ := h
    rfl
  · obtain ⟨v, ⟨mn, md, mw, mx⟩, wide, rfl, ⟨t, fl, rfl, ht, hfl⟩, q⟩ := h
    dsimp only at ht hfl q
    have len := inOrder_len mw
    refine ⟨_, PSs.nox (pss_cons (ps_asg (pv 0) (pg_tup rfl (pgs_cons (pg_name (i := 2) scHasMethodFlags.nd rfl (.inl rfl)) (pgs_cons (pg_name (i := 3) scHasMethodFlags.nd rfl (.inl rfl)) (pgs_cons (pg_name (i := 4) scHasMethodFlags.nd rfl (.inl rfl)) (pgs_cons (pg_name (i := 3) scHasMethodFlags.nd rfl (.inl rfl)) pgs_nil))))))
      (pss_cons (ps_if (pt_cmpR op_eq (pv 2) pe_str (nomark _)) (pss_one (ps_ret (pe_cmpR (op_eqD hr.units) (pv 4) (pe_tup (pa_cons pe_str pa_nil)) (nomark _)))) pss_nil)
      (pss_cons (ps_if (PW.pt (pw_or (pt_cmpR op_in_seq pe_str (pv 4) rfl) (pw_or1 (pt_not (pt_val (pe_cl c_has_one_access hr (by decide) (by rfl) (pa_cons (pv 4) pa_nil))))))) (pss_one (ps_ret pe_bl)) pss_nil)
      (pss_cons (ps_if (PW.pt (pw_and (pt_cmpR op_eq (pv 2) pe_str (nomark _)) (pw_and1 (pt_not (pt_val (pe_callB (cr_all rfl) (by rfl) B.all (by decide +kernel) (pa_cons (pe_lc (own := [("word", 5)]) (g := gName 5) (tt := tYes) rfl scHasMethodFlags.nd (pi_tup (pv 4)) (blkOk_by (N := ["method", "in_interface", "name", "_", "flags", "word"]) (sc := L2.defScope sHasMethodFlags) (by decide +kernel)) (fun _ _ _ _ _ => pg_name (i := 5) scHasMethodFlags.nd rfl (Or.inl rfl)) (fun _ _ _ _ _ => pts_nil) (fun _ _ _ _ _ => (pe_cmpR (r := rIn K false) op_in_seq (pv 5) (pe_glob (v := .ref aAC) (by rfl) g_ACCESS rfl) rfl))) pa_nil))))))) (pss_one (ps_ret pe_bl)) pss_nil)
      (pss_cons (ps_if (PW.pt (pw_and (pt_cmpR op_in_seq pe_str (pv 4) rfl) (pw_and1 (pt_val (pe_callB (cr_any rfl) (by rfl) B.any (by decide +kernel) (pa_cons (pe_lc (own := [("word", 5)]) (g := gName 5) (tt := tYes) rfl scHasMethodFlags.nd (pi_tup (pv 4)) (blkOk_by (N := ["method", "in_interface", "name", "_", "flags", "word"]) (sc := L2.defScope sHasMethodFlags) (by decide +kernel)) (fun _ _ _ _ _ => pg_name (i := 5) scHasMethodFlags.nd rfl (Or.inl rfl)) (fun _ _ _ _ _ => pts_nil) (fun _ _ _ _ _ => (pe_cmpR (r := rIn K false) op_in_seq (pv 5) (pe_glob (v := .ref aNA) (by rfl) g_NOT_WITH_ABSTRACT rfl) rfl))) pa_nil)))))) (pss_one (ps_ret pe_bl)) pss_nil)
      (pss_one (ps_ret (pe_or (pe_not (pv 1)) (pe_one (pe_cl c_may_stand_in_interface hr (by decide) (by rfl) (pa_cons (pv 4) pa_nil))))))))))), ?_⟩
    refine ⟨.ref t, rfl, tup4 ht ?_⟩
    dsimp only
    refine q_when (b := decide (S mn = "<clinit>")) (et_test (ev_eqSV (ev_var rfl))) (fun e H1 x1 => ?_) (fun e1 H1 x1 => ?_)
    · refine s_ret (v := .bl (hmf wide (S mn) (inOrder mw))) (ev_opU (xs := [.str "static"]) (ev_var rfl) (eu_tup (ea_cons ev_c ea_nil) (by show 1 ≤ 100000; decide)) fun r H2 h2 x2 => fun H3 x3 Q' q' => ⟨dT (inOrder mw), dT ["static"], .tup (st_of (((x1.trans x2).trans x3) _ _ hfl)) (dWs_dp _), .tup (st_of (x3 _ _ h2)) (dWs_dp ["static"]), dT_shaped (inOrder_ok _), dT_shaped (by decide +kernel), ?_⟩) fun H2 x2 => q H2 (x1.trans x2)
      rw [dT_eqv]
      have z := q' H3 (Ex.refl H3)
      unfold hmf at z
      rwa [if_pos (of_decide_eq_true e)] at z
    have n1 := of_decide_eq_false e1
    refine q_when (b := decide (("interface" : Str) ∈ inOrder mw) || !hoa (inOrder mw)) (et_or (et_test (ev_inWT ev_c (ev_var rfl) (st_of (x1 _ _ hfl)))) fun _ => et_not (et_test (ev_call (ea_cons (ev_var rfl) ea_nil) fun H2 e2 Q' q' E' => ⟨fl, _, rfl, (x1.trans e2) _ _ hfl, by omega, q'⟩))) (fun e H2 x2 => ?_) (fun e2 H2 x2 => ?_)
    · exact s_ret (v := .bl (hmf wide (S mn) (inOrder mw))) (ev_is ev_c (by unfold hmf; rw [if_neg n1, if_pos e])) fun H3 x3 => q H3 ((x1.trans x2).trans x3)
    have x12 := x1.trans x2
    refine q_when (b := decide (S mn = "<init>") && !((inOrder mw).all fun x => decide (x ∈ acc3))) (et_and (et_test (ev_eqSV (ev_var rfl))) fun _ => et_not (et_test (ev_allW (ev_var rfl) (fun H3 x3 => st_of ((x12.trans x3) _ _ hfl)) hA (by omega) (fun _ => rfl) (fun _ => rfl)))) (fun e H3 x3 => ?_) (fun e3 H3 x3 => ?_)
    · exact s_ret (v := .bl (hmf wide (S mn) (inOrder mw))) (ev_is ev_c (by unfold hmf; rw [if_neg n1, if_neg (by rw [e2]; decide), if_pos e])) fun H4 x4 => q H4 ((x12.trans x3).trans x4)
    have x13 := x12.trans x3
    refine q_when (b := decide (("abstract" : Str) ∈ inOrder mw) && ((inOrder mw).any fun x => decide (x ∈ nwa))) (et_and (et_test (ev_inWT ev_c (ev_var rfl) (st_of (x13 _ _ hfl)))) fun _ => et_test (ev_anyW (ev_var rfl) (fun H4 x4 => st_of ((x13.trans x4) _ _ hfl)) hN (by omega) (fun _ => rfl) (fun _ => rfl))) (fun e H4 x4 => ?_) (fun e4 H4 x4 => ?_)
    · exact s_ret (v := .bl (hmf wide (S mn) (inOrder mw))) (ev_is ev_c (by unfold hmf; rw [if_neg n1, if_neg (by rw [e2]; decide), if_neg (by rw [e3]; decide), if_pos e])) fun H5 x5 => q H5 ((x13.trans x4).trans x5)
    have x14 := x13.trans x4
    refine s_ret (v := .bl (hmf wide (S mn) (inOrder mw))) (ev_is (ev_orV (ev_notV (ev_var rfl)) fun _ => ev_call (ea_cons (ev_var rfl) ea_nil) fun H5 e5 Q' q' E' => ⟨fl, _, rfl, (x14.trans e5) _ _ hfl, by omega, q'⟩) ?_) fun H5 x5 => q H5 (x14.trans x5)
    unfold hmf
    rw [if_neg n1, if_neg (by rw [e2]; decide), if_neg (by rw [e3]; decide), if_neg (by rw [e4]; decide)]
theorem ok_hasRightResult {f : Addr} {fd : FuncData} (F : FnP K "_has_right_result" sHasRightResult f fd) (B : Bt mg) (c_result : Cl P w K mg base L2.CX0 7 "result" ["descriptor"] spResult) : FnOk P w K mg base L2.CX0 8 f fd ["method"] spHRR := by
  refine F.ok scHasRightResult (fun vs H Q E h => ?_) (fun cdv A outer s H vs Q E hr h => ?_)
  · obtain ⟨v, m, acc, last, rfl, _⟩ := h
    rfl
  · obtain ⟨v, ⟨mn, md, mw, mx⟩, acc, last, rfl, ⟨t, fl, rfl, ht, hfl⟩, hl, hp, q⟩ := h
    dsimp only at ht hfl hl hp q
    refine ⟨_, PSs.nox (pss_cons (ps_asg (pv 0) (pg_tup rfl (pgs_cons (pg_name (i := 1) scHasRightResult.nd rfl (.inl rfl)) (pgs_cons (pg_name (i := 2) scHasRightResult.nd rfl (.inl rfl)) (pgs_cons (pg_name (i := 3) scHasRightResult.nd rfl (.inl rfl)) (pgs_cons (pg_name (i := 3) scHasRightResult.nd rfl (.inl rfl)) pgs_nil))))))
      (pss_cons (ps_if (pt_cmpR op_eq (pv 1) pe_str (nomark _)) (pss_one (ps_ret (pe_cmpR op_eq (pv 2) pe_str (nomark _)))) pss_nil)
      (pss_one (ps_ret (pe_or (pe_cmpR op_ne (pv 1) pe_str (nomark _)) (pe_one (pe_cmpR op_eq (pe_cl c_result hr (by decide) (by rfl) (pa_cons (pv 2) pa_nil)) pe_str (nomark _)))))))), ?_⟩
    refine ⟨.ref t, rfl, tup4 ht ?_⟩
    dsimp only
    refine q_when (b := decide (S mn = "<clinit>")) (et_test (ev_eqSV (ev_var rfl))) (fun e H1 x1 => ?_) (fun e1 H1 x1 => ?_)
    · exact s_ret (v := .bl (hrr (S mn) md last)) (ev_is (ev_op (ev_var rfl) ev_c (rv_eq rfl)) (by unfold hrr; rw [if_pos (of_decide_eq_true e)])) fun H2 x2 => q H2 (x1.trans x2)
    · refine s_ret (v := .bl (hrr (S mn) md last)) (ev_is (ev_orV (ev_neSV (ev_var rfl)) fun _ => ev_op (ev_call (ea_cons (ev_var rfl) ea_nil) fun H2 e2 Q' q' E' => ⟨md, acc, last, rfl, hl, hp, q'⟩) ev_c (rv_eq rfl)) ?_) fun H2 x2 => q H2 (x1.trans x2)
      unfold hrr
      rw [if_neg (of_decide_eq_false e1)]
theorem ok_hasCodeAsTold {f : Addr} {fd : FuncData} (F : FnP K "_has_code_as_told" sHasCodeAsTold f fd) (B : Bt mg) : FnOk P w K mg base L2.CX0 1 f fd ["method"] (spHCT K) := by
  refine F.ok scHasCodeAsTold (fun vs H Q E h => ?_) (fun cdv A outer s H vs Q E hr h => ?_)
  · obtain ⟨v, m, rfl, _⟩ := h
    rfl
  · obtain ⟨v, ⟨mn, md, mw, mx⟩, rfl, ⟨t, fl, rfl, ht, hfl⟩, hc, q⟩ := h
    dsimp only at ht hfl hc q
    refine ⟨_, PSs.nox (pss_cons (ps_asg (pv 0) (pg_tup rfl (pgs_cons (pg_name (i := 1) scHasCodeAsTold.nd rfl (.inl rfl)) (pgs_cons (pg_name (i := 1) scHasCodeAsTold.nd rfl (.inl rfl)) (pgs_cons (pg_name (i := 2) scHasCodeAsTold.nd rfl (.inl rfl)) (pgs_cons (pg_name (i := 3) scHasCodeAsTold.nd rfl (.inl rfl)) pgs_nil))))))
      (pss_one (ps_ret (pe_cmpR op_eq (pe_cmpR op_isN (pv 3) pe_non (nomark _)) (pe_or (pe_cmpR op_in_seq pe_str (pv 2) rfl) (pe_one (pe_cmpR op_in_seq pe_str (pv 2) rfl))) (nomark _))))), ?_⟩
    refine ⟨.ref t, rfl, tup4 ht ?_⟩
    dsimp only
    exact s_ret (v := .bl (hct (inOrder mw) mx)) (ev_op (x := .bl (decide (mx = .non))) (y := .bl (decide (("abstract" : Str) ∈ inOrder mw) || decide (("native" : Str) ∈ inOrder mw))) (ev_isNon (ev_var rfl)) (ev_orV (ev_inWT ev_c (ev_var rfl) (st_of hfl)) fun _ => ev_inWT ev_c (ev_var rfl) (st_of hfl)) (rv_eq rfl)) q
theorem ok_hasRoom {f : Addr} {fd : FuncData} (F : FnP K "_has_room" sHasRoom f fd) (B : Bt mg) (cu : CU2 K mg) (c_parameters : Cl P w K mg base L2.CX0 7 "parameters" ["descriptor"] spParams) (c_places_of : Cl P w K mg base L2.CX0 1 "places_of" ["descriptors"] (spPlaces K)) : FnOk P w K mg base L2.CX0 8 f fd ["method"] (spRoom K) := by
  have g_Code := cu.gC
  refine F.ok scHasRoom (fun vs H Q E h => ?_) (fun cdv A outer s H vs Q E hr h => ?_)
  · obtain ⟨v, m, ps, c, hi, rfl, _⟩ := h
    rfl
  · obtain ⟨v, ⟨mn, md, mw, mx⟩, ps, c, hi, rfl, ⟨t, fl, rfl, ht, hfl⟩, hc, hl, hp, q⟩ := h
    dsimp only at ht hfl hc hl hp q
    refine ⟨_, PSs.nox (pss_cons (ps_asg (pv 0) (pg_tup rfl (pgs_cons (pg_name (i := 1) scHasRoom.nd rfl (.inl rfl)) (pgs_cons (pg_name (i := 2) scHasRoom.nd rfl (.inl rfl)) (pgs_cons (pg_name (i := 3) scHasRoom.nd rfl (.inl rfl)) (pgs_cons (pg_name (i := 4) scHasRoom.nd rfl (.inl rfl)) pgs_nil))))))
      (pss_cons (ps_if (pt_not (pt_val (pe_callB call_isi (by rfl) B.isi (by decide +kernel) (pa_cons (pv 4) (pa_cons (pe_glob (v := .ref (cl K "Code")) (by rfl) g_Code rfl) pa_nil))))) (pss_one (ps_ret pe_bl)) pss_nil)
      (pss_cons (ps_set (i := 5) scHasRoom.nd rfl (.inl rfl) (pe_ifExp (pt_cmpR op_in_seq pe_str (pv 3) rfl) pe_int pe_int))
      (pss_one (ps_ret (pe_cmpR op_le (pe_op op_add (pe_cl c_places_of hr (by decide) (by rfl) (pa_cons (pe_cl c_parameters hr (by decide) (by rfl) (pa_cons (pv 2) pa_nil)) pa_nil)) (pv 5)) (pe_fld (pv 4) rfl) (nomark _))))))), ?_⟩
    refine ⟨.ref t, rfl, tup4 ht ?_⟩
    dsimp only
    refine q_when (b := !c) (et_not (et_test (ev_isCode cu (ev_var rfl) hc))) (fun e H1 x1 => ?_) (fun e1 H1 x1 => ?_)
    · exact s_ret (v := .bl (roomB ps (inOrder mw) c hi)) (ev_is ev_c (by unfold roomB; rw [if_pos e])) fun H2 x2 => q H2 (x1.trans x2)
    have ec : c = true := by cases c <;> simp_all
    subst ec
    rcases hc with ⟨_, e⟩ | ⟨a, dx, fs, rfl, ha, hpl, _⟩ | ⟨_, _, _, _, _, e⟩
    · cases e
    · refine q_asg (v := .int (if decide (("static" : Str) ∈ inOrder mw) = true then 0 else 1)) ?_ fun H2 x2 => ?_
      · refine ev_if (b := decide (("static" : Str) ∈ inOrder mw)) (et_test (ev_inWT ev_c (ev_var rfl) (st_of (x1 _ _ hfl)))) (fun e => ev_is ev_c (by rw [if_pos e])) (fun e => ev_is ev_c (by rw [if_neg (by rw [e]; decide)]))
      · have x12 := x1.trans x2
        refine rd_ret (rd_op (rd_op (rd_call (rd_cons (rd_call (rd_cons (rd_ev (ev_var rfl) fun H3 x3 => rd_nil ⟨md, ps, rfl, hl, hp, fun p H4 hp4 x4 h4 => rd_nil ⟨p, ps.dropLast, rfl, sq_of h4, ?_, fun H5 x5 => ?_⟩⟩)))))))
        · have z := parts_len hp
          rw [List.length_dropLast]
          omega
        · have x25 := ((x12.trans x3).trans x4).trans x5
          refine rd_ev (ev_var rfl) fun H6 x6 => ⟨_, _, rfl, rfl, rd_ev (ev_fld (ev_var rfl) ((x25.trans x6) _ _ ha) cu.c cu.np hpl) fun H7 x7 => ⟨_, _, rfl, rfl, ?_⟩⟩
          have z := q H7 ((x25.trans x6).trans x7)
          unfold roomB at z
          rw [if_neg (by decide)] at z
          exact z
    · cases e
end
end N8

set_option maxHeartbeats 4000000
namespace N8
open PySem PySem.Spec PyProof.Rows L2 Evl
open SX (S)
abbrev sFaultOfMethods : Stmt := topS 89
theorem scFaultOfMethods : FnScope ["file", "in_interface", "twice", "number", "method", "word", "name", "descriptor", "_"] ["file"] (L2.defScope sFaultOfMethods) := ⟨rfl, rfl, rfl, by decide +kernel, rfl, by decide +kernel, by decide +kernel⟩
abbrev sFault : Stmt := topS 80
theorem scFault : FnScope ["file", "found"] ["file"] (L2.defScope sFault) := ⟨rfl, rfl, rfl, by decide +kernel, rfl, by decide +kernel, by decide +kernel⟩

def psL (d : List Nat) : List (List Nat) := (partsL d).getD []
def lastL (d : List Nat) : List Nat := (psL d).getLast?.getD []
theorem psL_some {d : List Nat} (h : ∃ ps, partsL d = some ps) : partsL d = some (psL d) ∧ ∃ acc, partsL d = some (acc ++ [lastL d]) := by
  obtain ⟨ps, e⟩ := h
  have e1 : psL d = ps := by unfold psL; rw [e]; rfl
  obtain ⟨acc, last, rfl⟩ := parts_ne e
  refine ⟨by rw [e1]; exact e, acc, ?_⟩
  have e2 : lastL d = last := by unfold lastL; rw [e1, List.getLast?_append]; rfl
  rw [e2]; exact e
def wordOf (wide ah : Bool) (l : LM) : Option Str :=
  if (!hmf wide (S l.m.name) (inOrder l.m.ws)) = true then some "flags"
  else if (wide && decide (S l.m.name = "<init>")) = true then some "init"
  else if (!hrr (S l.m.name) l.m.desc (lastL l.m.desc)) = true then some "result"
  else if ah = true then some "twice"
  else if (!hct (inOrder l.m.ws) l.m.x) = true then some "code"
  else if (!roomB (psL l.m.desc) (inOrder l.m.ws) l.code l.high) = true then some "places" else none
def DescOk (d : List Nat) : Prop := d.length ≤ 10000 ∧ ∃ ps, partsL d = some ps
def spWord (K : PySem.W.Frag) : Sp := fun vs H Q _ => ∃ (v : V) (l : LM) (wide ah : Bool), vs = [v, .bl wide, .bl ah] ∧ KeptAt H v l.m ∧ CodeAt K H l.m.x l.code l.high ∧ DescOk l.m.desc ∧ RetV (optV (wordOf wide ah l)) H Q
def metWord (wide : Bool) (ls : List LM) (i : Nat) : Option Str := match ls[i]? with
  | none => none
  | some l => wordOf wide (isAh (ls.map fun (l : LM) => keyOf l.m) i) l
def pMethods (wide : Bool) (ls : List LM) : Due3 := firstDue "method" (metWord wide ls) ls.length 0
/-- the methods of a file, with what is known of their codes -/
def LsOk (K : PySem.W.Frag) (H : Hp) (d : CD) (ls : List LM) : Prop := d.methods = ls.map (·.m) ∧ ls.length ≤ 4 ∧ ∀ l ∈ ls, CodeAt K H l.m.x l.code l.high ∧ DescOk l.m.desc
theorem LsOk.ex {K : PySem.W.Frag} {H H' : Hp} {d : CD} {ls : List LM} (h : LsOk K H d ls) (e : Ex H H') : LsOk K H' d ls := ⟨h.1, h.2.1, fun l hl => ⟨(h.2.2 l hl).1.ex e, (h.2.2 l hl).2⟩⟩
def spFMethods (K : PySem.W.Frag) : Sp := fun vs H Q _ => ∃ (a : Addr) (d : CD) (ls : List LM), vs = [.ref a] ∧ FileAt K H a d ∧ LsOk K H d ls ∧ RetD (pMethods (isWide d) ls) H Q
def pFault (d : CD) (ls : List LM) : Due3 := match pClass d with
  | some z => some z
  | none => match pFields (isWide d) d.fields with
    | some z => some z
    | none => pMethods (isWide d) ls
def FileOk (K : PySem.W.Frag) (H : Hp) (a : Addr) (d : CD) (ls : List LM) : Prop := FileAt K H a d ∧ LsOk K H d ls ∧ d.faces.length ≤ 100 ∧ d.fields.length ≤ 4 ∧ ∀ m ∈ d.fields, Con3 m.x
theorem FileOk.ex {K : PySem.W.Frag} {H H' : Hp} {a : Addr} {d : CD} {ls : List LM} (h : FileOk K H a d ls) (e : Ex H H') : FileOk K H' a d ls := ⟨h.1.ex e, h.2.1.ex e, h.2.2⟩
def spFault (K : PySem.W.Frag) : Sp := fun vs H Q _ => ∃ (a : Addr) (d : CD) (ls : List LM), vs = [.ref a] ∧ FileOk K H a d ls ∧ RetD (pFault d ls) H Q
section
variable {K : PySem.W.Frag} {σ : L2.St} {H H' : Hp} {te ta tb tl : TE} {t : TT} {v x : V} {D : Ends} {tz tu : TS} {Q : VK}
theorem ev_isNotO {o : Option Str} (h : Ev te σ H (optV o)) : Ev (tOp (fun x y H Q => y = V.non ∧ Q (.bl (!decide (x = V.non))) H) te (tC .non)) σ H (.bl o.isSome) := fun H1 e Q q => h H1 e _ fun H2 e2 => ⟨rfl, by
  have : (!decide (optV o = V.non)) = o.isSome := by cases o <;> rfl
  rw [this]
  exact q H2 e2⟩
end
section
variable {P : Program} {w : World} {K : PySem.W.Frag} {mg : Str → Option Value} {base : Heap}
theorem ok_wordForMethod {f : Addr} {fd : FuncData} (F : FnP K "_word_for_method" sWordForMethod f fd) (B : Bt mg) (c_has_method_flags : Cl P w K mg base L2.CX0 2 "_has_method_flags" ["method", "in_interface"] spHMF) (c_has_right_result : Cl P w K mg base L2.CX0 8 "_has_right_result" ["method"] spHRR)
    (c_has_code_as_told : Cl P w K mg base L2.CX0 1 "_has_code_as_told" ["method"] (spHCT K)) (c_has_room : Cl P w K mg base L2.CX0 8 "_has_room" ["method"] (spRoom K)) : FnOk P w K mg base L2.CX0 9 f fd ["method", "in_interface", "stands_ahead"] (spWord K) := by
  refine F.ok scWordForMethod (fun vs H Q E h => ?_) (fun cdv A outer s H vs Q E hr h => ?_)
  · obtain ⟨v, l, wide, ah, rfl, _⟩ := h
    rfl
  · obtain ⟨v, l, wide, ah, rfl, hk, hc, hd, q⟩ := h
    have hk0 := hk
    obtain ⟨t, fl, rfl, ht, hfl⟩ := hk0
    obtain ⟨e1, acc, e2⟩ := psL_some hd.2
    refine ⟨_, PSs.nox (pss_cons (ps_if (pt_not (pt_val (pe_cl c_has_method_flags hr (by decide) (by rfl) (pa_cons (pv 0) (pa_cons (pv 1) pa_nil))))) (pss_one (ps_ret pe_str)) pss_nil)
      (pss_cons (ps_if (PW.pt (pw_and (pt_val (pv 1)) (pw_and1 (pt_cmpR op_eq (pe_ix ix_tup (pv 0) pe_int (fun _ _ => rfl)) pe_str (nomark _))))) (pss_one (ps_ret pe_str)) pss_nil)
      (pss_cons (ps_if (pt_not (pt_val (pe_cl c_has_right_result hr (by decide) (by rfl) (pa_cons (pv 0) pa_nil)))) (pss_one (ps_ret pe_str)) pss_nil)
      (pss_cons (ps_if (pt_val (pv 2)) (pss_one (ps_ret pe_str)) pss_nil)
      (pss_cons (ps_if (pt_not (pt_val (pe_cl c_has_code_as_told hr (by decide) (by rfl) (pa_cons (pv 0) pa_nil)))) (pss_one (ps_ret pe_str)) pss_nil)
      (pss_cons (ps_if (pt_not (pt_val (pe_cl c_has_room hr (by decide) (by rfl) (pa_cons (pv 0) pa_nil)))) (pss_one (ps_ret pe_str)) pss_nil)
      (pss_one (ps_ret pe_non)))))))), ?_⟩
    refine q_when (b := !hmf wide (S l.m.name) (inOrder l.m.ws)) (et_not (et_test (ev_call (ea_cons (ev_var rfl) (ea_cons (ev_var rfl) ea_nil)) fun H1 e Q' q' E' => ⟨_, l.m, wide, rfl, hk.ex e, q'⟩))) (fun e H1 x1 => ?_) (fun g1 H1 x1 => ?_)
    · exact s_ret (v := optV (wordOf wide ah l)) (ev_is ev_c (by unfold wordOf; rw [if_pos e]; rfl)) fun H2 x2 => q H2 (x1.trans x2)
    refine q_when (b := wide && decide (S l.m.name = "<init>")) (et_and (et_B (ev_var rfl)) fun _ => et_test (ev_eqSV (ev_op (ev_var rfl) ev_c (rv_ixT (st_of (x1 _ _ ht)) rfl)))) (fun e H2 x2 => ?_) (fun g2 H2 x2 => ?_)
    · exact s_ret (v := optV (wordOf wide ah l)) (ev_is ev_c (by unfold wordOf; rw [if_neg (by rw [g1]; decide), if_pos e]; rfl)) fun H3 x3 => q H3 ((x1.trans x2).trans x3)
    have x12 := x1.trans x2
    refine q_when (b := !hrr (S l.m.name) l.m.desc (lastL l.m.desc)) (et_not (et_test (ev_call (ea_cons (ev_var rfl) ea_nil) fun H3 e Q' q' E' => ⟨_, l.m, acc, _, rfl, hk.ex (x12.trans e), hd.1, e2, q'⟩))) (fun e H3 x3 => ?_) (fun g3 H3 x3 => ?_)
    · exact s_ret (v := optV (wordOf wide ah l)) (ev_is ev_c (by unfold wordOf; rw [if_neg (by rw [g1]; decide), if_neg (by rw [g2]; decide), if_pos e]; rfl)) fun H4 x4 => q H4 ((x12.trans x3).trans x4)
    have x13 := x12.trans x3
    refine q_when (b := ah) (et_B (ev_var rfl)) (fun e H4 x4 => ?_) (fun g4 H4 x4 => ?_)
    · exact s_ret (v := optV (wordOf wide ah l)) (ev_is ev_c (by unfold wordOf; rw [if_neg (by rw [g1]; decide), if_neg (by rw [g2]; decide), if_neg (by rw [g3]; decide), if_pos e]; rfl)) fun H5 x5 => q H5 ((x13.trans x4).trans x5)
    have x14 := x13.trans x4
    refine q_when (b := !hct (inOrder l.m.ws) l.m.x) (et_not (et_test (ev_call (ea_cons (ev_var rfl) ea_nil) fun H5 e Q' q' E' => ⟨_, l.m, rfl, hk.ex (x14.trans e), (hc.ex (x14.trans e)).v, q'⟩))) (fun e H5 x5 => ?_) (fun g5 H5 x5 => ?_)
    · exact s_ret (v := optV (wordOf wide ah l)) (ev_is ev_c (by unfold wordOf; rw [if_neg (by rw [g1]; decide), if_neg (by rw [g2]; decide), if_neg (by rw [g3]; decide), if_neg (by rw [g4]; decide), if_pos e]; rfl)) fun H6 x6 => q H6 ((x14.trans x5).trans x6)
    have x15 := x14.trans x5
    refine q_when (b := !roomB (psL l.m.desc) (inOrder l.m.ws) l.code l.high) (et_not (et_test (ev_call (ea_cons (ev_var rfl) ea_nil) fun H6 e Q' q' E' => ⟨_, l.m, _, _, _, rfl, hk.ex (x15.trans e), hc.ex (x15.trans e), hd.1, e1, q'⟩))) (fun e H6 x6 => ?_) (fun g6 H6 x6 => ?_)
    · exact s_ret (v := optV (wordOf wide ah l)) (ev_is ev_c (by unfold wordOf; rw [if_neg (by rw [g1]; decide), if_neg (by rw [g2]; decide), if_neg (by rw [g3]; decide), if_neg (by rw [g4]; decide), if_neg (by rw [g5]; decide), if_pos e]; rfl)) fun H7 x7 => q H7 ((x15.trans x6).trans x7)
    · exact s_ret (v := optV (wordOf wide ah l)) (ev_is ev_c (by unfold wordOf; rw [if_neg (by rw [g1]; decide), if_neg (by rw [g2]; decide), if_neg (by rw [g3]; decide), if_neg (by rw [g4]; decide), if_neg (by rw [g5]; decide), if_neg (by rw [g6]; decide)]; rfl)) fun H7 x7 => q H7 ((x15.trans x6).trans x7)
theorem ok_faultOfMethods {f : Addr} {fd : FuncData} (F : FnP K "_fault_of_methods" sFaultOfMethods f fd) (B : Bt mg) (cf : CFK K) (c_stand_ahead : Cl P w K mg base L2.CX0 1 "_stand_ahead" ["things"] (spAhead K)) (c_word_for_method : Cl P w K mg base L2.CX0 9 "_word_for_method" ["method", "in_interface", "stands_ahead"] (spWord K)) :
    FnOk P w K mg base L2.CX0 10 f fd ["file"] (spFMethods K) := by
  refine F.ok scFaultOfMethods (fun vs H Q E h => ?_) (fun cdv A outer s H vs Q E hr h => ?_)
  · obtain ⟨a, d, ls, rfl, _⟩ := h
    rfl
  · obtain ⟨a, d, ls, rfl, fa, hls, q⟩ := h
    obtain ⟨dx, fs, ha, qi, qw, qf, qm, yf, ym, l1, l2, l3, l4, l5, l6, h7, h8, h9, h10, h11, h12⟩ := fa
    obtain ⟨hd, hlen, hall⟩ := id hls
    refine ⟨_, PSs.nox (pss_cons (ps_set (i := 1) scFaultOfMethods.nd rfl (.inl rfl) (pe_cmpR op_in_seq pe_str (pe_fld (pv 0) rfl) rfl))
      (pss_cons (ps_set (i := 2) scFaultOfMethods.nd rfl (.inl rfl) (pe_cl c_stand_ahead hr (by decide) (by rfl) (pa_cons (pe_lc (own := [("name", 6), ("descriptor", 7), ("_", 8)]) (g := gTup K 4 (gCons (gName 6) (gCons (gName 7) (gCons (gName 8) (gCons (gName 8) gNil))))) (tt := tYes) rfl scFaultOfMethods.nd (pi_tup (pe_fld (pv 0) rfl)) (blkOk_by (N := ["file", "in_interface", "twice", "number", "method", "word", "name", "descriptor", "_"]) (sc := L2.defScope sFaultOfMethods) (by decide +kernel)) (fun _ _ _ _ _ => (pg_tup rfl (pgs_cons (pg_name (i := 6) scFaultOfMethods.nd rfl (.inl rfl)) (pgs_cons (pg_name (i := 7) scFaultOfMethods.nd rfl (.inl rfl)) (pgs_cons (pg_name (i := 8) scFaultOfMethods.nd rfl (.inl rfl)) (pgs_cons (pg_name (i := 8) scFaultOfMethods.nd rfl (.inl rfl)) pgs_nil)))))) (fun _ _ _ _ _ => pts_nil) (fun _ _ _ _ _ => (pe_tup (pa_cons (pv 6) (pa_cons (pv 7) pa_nil))))) pa_nil)))
      (pss_cons (ps_for PassesOwn.never rfl (EN.pi_enT (by rfl) B.enumerate (pa_cons (pe_fld (pv 0) rfl) pa_nil)) (pg_tup rfl (pgs_cons (pg_name (i := 3) scFaultOfMethods.nd rfl (.inl rfl)) (pgs_cons (pg_name (i := 4) scFaultOfMethods.nd rfl (.inl rfl)) pgs_nil))) (pss_cons (ps_set (i := 5) scFaultOfMethods.nd rfl (.inl rfl) (pe_cl c_word_for_method hr (by decide) (by rfl) (pa_cons (pv 4) (pa_cons (pv 1) (pa_cons (pe_ix ix_list (pv 2) (pv 3) (fun _ _ => rfl)) pa_nil)))))
      (pss_one (ps_if (pt_cmpR op_notN (pv 5) pe_non (nomark _)) (pss_one (ps_ret (pe_tup (pa_cons (pv 5) (pa_cons pe_str (pa_cons (pv 3) pa_nil)))))) pss_nil))))
      (pss_one (ps_ret pe_non))))), ?_⟩
    have fl : ∀ {σ' : L2.St} {H1 : Hp} {x : Str} {v : V}, σ'[0]? = some (some (.ref a)) → Ex H H1 → x ∈ (["name", "parent", "interfaces", "flags", "fields", "methods"] : List Str) → fs.lookup x = some v → Ev (tFld K (tVar 0) x) σ' H1 v := fun h0 x1 hm hl => ev_fld (ev_var h0) (x1 _ _ ha) cf.c (cf.no _ hm) hl
    refine q_asg (v := .bl (isWide d)) (ev_inWT ev_c (fl rfl (Ex.refl H) (by decide) l4) (st_of h8)) fun H0 x0 => ?_
    have ekeys : d.methods.map keyOf = ls.map fun (l : LM) => keyOf l.m := by rw [hd, List.map_map]; rfl
    have dlen : d.methods.length = ls.length := by rw [hd, List.length_map]
    refine q_asgAny (twice_of (fl rfl x0 (by decide) l6) (x0 _ _ h11) (h12.imp fun _ _ k => k.ex x0) (by omega) (fun _ _ _ _ => rfl) (fun _ _ _ _ => rfl) (fun _ _ _ _ => rfl) fun pT H1 x1' hT => ?_)
    rw [ekeys] at hT
    have x1 := x0.trans x1'
    refine q_forEn (xs := ym) (fl rfl x1 (by decide) l6) (st_of (x1 _ _ h11)) (fun i σ' H' => Ex H1 H' ∧ pMethods (isWide d) ls = firstDue "method" (metWord (isWide d) ls) (ls.length - i) i ∧ i ≤ ls.length ∧ ∃ v3 v4 v5 v6 v7 v8, σ' = [some (.ref a), some (.bl (isWide d)), some (.ref pT), v3, v4, v5, v6, v7, v8])
      (fun H2 x2 => ⟨x2, rfl, Nat.zero_le _, none, none, none, none, none, none, rfl⟩) (fun i σ' H' hP => st_of ((x1.trans hP.1) _ _ h11)) (fun i x σ' H' H3 hx hP x3 => ?_) (fun σ' H' hP => ?_)
    · obtain ⟨e, ep, hi, v3, v4, v5, v6, v7, v8, rfl⟩ := hP
      obtain ⟨m, hm, hk⟩ := h12.at hx
      rw [hd, List.getElem?_map] at hm
      obtain ⟨l, hl2, rfl⟩ := Option.map_eq_some_iff.mp hm
      have hil : i < ls.length := (List.getElem?_eq_some_iff.mp hl2).1
      have H3e : Ex H1 H3 := e.trans x3
      have eT : Ex H H3 := x1.trans H3e
      have e0 : metWord (isWide d) ls i = wordOf (isWide d) (isAh (ls.map fun (l : LM) => keyOf l.m) i) l := by
        unfold metWord
        rw [hl2]
      have ep2 : firstDue "method" (metWord (isWide d) ls) (ls.length - i) i = match metWord (isWide d) ls i with
          | some z => some (z, "method", (i : Int))
          | none => firstDue "method" (metWord (isWide d) ls) (ls.length - (i + 1)) (i + 1) := by
        obtain ⟨n, hn⟩ : ∃ n, ls.length - i = n + 1 := ⟨ls.length - i - 1, by omega⟩
        rw [hn, show ls.length - (i + 1) = n by omega]
        rfl
      have hc := hall l (List.mem_of_getElem? hl2)
      have hat : ((ahL (ls.map fun (l : LM) => keyOf l.m)).map V.bl)[i]? = some (V.bl (isAh (ls.map fun (l : LM) => keyOf l.m) i)) := by
        rw [List.getElem?_map, ahL_at (by rw [List.length_map]; exact hil)]; rfl
      refine q_asg (v := optV (wordOf (isWide d) (isAh (ls.map fun (l : LM) => keyOf l.m) i) l)) (ev_call (ea_cons (ev_var rfl) (ea_cons (ev_var rfl) (ea_cons (ev_op (ev_var rfl) (ev_var rfl) (rv_ixL (sq_of (H3e _ _ hT)) (atI_nat hat))) ea_nil))) fun H4 e4 Q' q' E' => ⟨x, l, isWide d, isAh (ls.map fun (l : LM) => keyOf l.m) i, rfl, hk.ex (eT.trans e4), hc.1.ex (eT.trans e4), hc.2, q'⟩) fun H4 x4 => ?_
      rw [ep, ep2, e0] at q
      refine s_when (b := (wordOf (isWide d) (isAh (ls.map fun (l : LM) => keyOf l.m) i) l).isSome) (et_test (ev_isNotO (ev_var rfl))) (fun e1 H5 x5 => ?_) (fun e1 H5 x5 => ⟨(H3e.trans x4).trans x5, ?_, by omega, _, _, _, _, _, _, rfl⟩)
      · obtain ⟨z, hz⟩ := Option.isSome_iff_exists.mp e1
        rw [hz] at q ⊢
        exact s_retU (eu_tup (vs := [.str z, .str "method", .int (i : Int)]) (ea_cons (ev_var rfl) (ea_cons ev_c (ea_cons (ev_var rfl) ea_nil))) (by show 3 ≤ 100000; decide)) fun r H6 hr6 x6 h6 => q r H6 (fresh_back ((eT.trans x4).trans x5) hr6) (((eT.trans x4).trans x5).trans x6) h6
      · rw [ep, ep2, e0]
        cases hz : wordOf (isWide d) (isAh (ls.map fun (l : LM) => keyOf l.m) i) l with
        | none => rfl
        | some z => rw [hz] at e1; cases e1
    · obtain ⟨e, ep, hi, v3, v4, v5, v6, v7, v8, rfl⟩ := hP
      rw [h12.len, dlen, Nat.sub_self] at ep
      rw [ep] at q
      exact s_ret ev_c fun H6 x6 => q H6 ((x1.trans e).trans x6)
end
end N8

set_option maxHeartbeats 4000000
namespace N8
open PySem PySem.Spec PyProof.Rows L2 Evl
open SX (S)
abbrev sLawSaid : Stmt := topS 115
theorem scLawSaid : FnScope ["thing"] ["thing"] (L2.defScope sLawSaid) := ⟨rfl, rfl, rfl, by decide +kernel, rfl, by decide +kernel, by decide +kernel⟩

section
variable {X : Cx} {C : Addr} {bmB : List Value} {B newId initId : String}
theorem pmk_own0 {x : Str} {p pos : Pos} (F : ExcBaseFacts B newId initId bmB) (q : PySem.W.excIn X.K C bmB newId = true) (gC : X.mg x = some (.ref C)) (kC : PySem.W.keepIn X.K (.ref C) = true) (r : Raises X (.ref C)) (hg : Gl X x)
    (hdb : (x == ("__debug__" : Str)) = false := by decide) : PMk X (.Call (.Name x p) [] [] pos) (fun _ H Q => Q (.ref C) none H) := by
  intro pins s σ H Q I h
  refine wpAny_Call_Name_kw (ld_glob I hg gC ?_ hdb)
  refine PySem.W.callWith_K0 I.kIn kC ?_
  show wpAny _ _ (call (.ref C) []) _ _ _
  obtain ⟨bm, N, nm, qn, bs, hdct, sn, sub, ab, col, dd, k0, k1, k2, k3, k5, mN, hC, hN, hni, T⟩ := exc_obj I.kIn q
  refine wpAny_call_exc_subT F T hC hN hni (fun h' e hm => ?_) (Nat.zero_le _)
  exact mk_of I hm r h (I.hok.gone hm.new)
end
/-- the error class NoFile, at C -/
structure NoF (K : PySem.W.Frag) (mg : Str → Option Value) (C : Addr) : Prop where
  gC : mg "NoFile" = some (.ref C)
  xP : PySem.W.excIn K C He.veBase "ValueError.__new__" = true
  kC : PySem.W.keepIn K (.ref C) = true
  bP : PySem.W.subIn K (.ref C) (.type "BaseException") = some true
  tP : PySem.W.typeIn K (.ref C) = some (.type "type")
  eP : PySem.W.exmOne K (.ref C) (.ref C) = some true
/-- ClassFile, as isinstance asks it -/
structure CFI (K : PySem.W.Frag) (mg : Str → Option Value) : Prop where
  g : mg "ClassFile" = some (.ref (cl K "ClassFile"))
  i : C8.InsC K (cl K "ClassFile")
def NotFile (K : PySem.W.Frag) (H : Hp) (x : V) : Prop := ∃ t, TyX K H x t ∧ PySem.W.kitOne K t (.ref (cl K "ClassFile")) = some false
theorem NotFile.ex {K : PySem.W.Frag} {H H' : Hp} {x : V} (h : NotFile K H x) (e : Ex H H') : NotFile K H' x := by
  obtain ⟨t, a, b⟩ := h
  exact ⟨t, TyX.ex e a, b⟩
def spFaultX (K : PySem.W.Frag) (C : Addr) : Sp := fun vs H Q E => ∃ x, vs = [x] ∧ NotFile K H x ∧ ∀ H', Ex H H' → E (.ref C) none H'
def spSaid (K : PySem.W.Frag) : Sp := fun vs H Q _ => ∃ x, vs = [x] ∧ NotFile K H x ∧ ∀ H', Ex H H' → Q (.str "none") H'
section
variable {K : PySem.W.Frag} {σ : L2.St} {H H' : Hp} {te : TE} {x : V}
theorem ev_isN0 (h : Ev te σ H .non) : Ev (tOp (fun x y H Q => y = V.non ∧ Q (.bl (decide (x = V.non))) H) te (tC .non)) σ H (.bl true) := ev_isNon h
theorem ev_isNr {r : Addr} (h : Ev te σ H (.ref r)) : Ev (tOp (fun x y H Q => y = V.non ∧ Q (.bl (decide (x = V.non))) H) te (tC .non)) σ H (.bl false) := ev_is (ev_isNon h) (congrArg V.bl (decide_eq_false fun e => by cases e))
theorem ev_notFile (h : Ev te σ H x) (hx : NotFile K H x) : Ev (tCB (rIsi K) (tCons te (tCons (tC (.ref (cl K "ClassFile"))) tNil))) σ H (.bl false) := fun H1 e Q q =>
  h H1 e _ fun H2 e2 => by
    obtain ⟨t, a, b⟩ := hx
    exact ⟨x, .ref _, t, .ref _, false, rfl, .own _, TyX.ex (e.trans e2) a, b, q H2 e2⟩
end
section
variable {P : Program} {w : World} {K : PySem.W.Frag} {mg : Str → Option Value} {base : Heap} {C : Addr}
theorem ok_fault {f : Addr} {fd : FuncData} (F : FnP K "fault" sFault f fd) (B : Bt mg) (ci : CFI K mg) (c_fault_of_class : Cl P w K mg base L2.CX0 2 "_fault_of_class" ["file"] (spFClass K)) (c_fault_of_fields : Cl P w K mg base L2.CX0 4 "_fault_of_fields" ["file"] (spFFields K))
    (c_fault_of_methods : Cl P w K mg base L2.CX0 10 "_fault_of_methods" ["file"] (spFMethods K)) : FnOk P w K mg base L2.CX0 11 f fd ["file"] (spFault K) := by
  have g_ClassFile := ci.g
  refine F.ok scFault (fun vs H Q E h => ?_) (fun cdv A outer s H vs Q E hr h => ?_)
  · obtain ⟨a, d, ls, rfl, _⟩ := h
    rfl
  · obtain ⟨a, d, ls, rfl, fa, q⟩ := h
    obtain ⟨dx, fs, ha, _⟩ := id fa.1
    refine ⟨_, PSs.nox (pss_cons (ps_if (pt_not (pt_val (pe_callB call_isi (by rfl) B.isi (by decide +kernel) (pa_cons (pv 0) (pa_cons (pe_glob (v := .ref (cl K "ClassFile")) (by rfl) g_ClassFile rfl) pa_nil))))) (pss_one ps_never) pss_nil)
      (pss_cons (ps_set (i := 1) scFault.nd rfl (.inl rfl) (pe_cl c_fault_of_class hr (by decide) (by rfl) (pa_cons (pv 0) pa_nil)))
      (pss_cons (ps_if (pt_cmpR op_isN (pv 1) pe_non (nomark _)) (pss_one (ps_set (i := 1) scFault.nd rfl (.inl rfl) (pe_cl c_fault_of_fields hr (by decide) (by rfl) (pa_cons (pv 0) pa_nil)))) pss_nil)
      (pss_cons (ps_if (pt_cmpR op_isN (pv 1) pe_non (nomark _)) (pss_one (ps_set (i := 1) scFault.nd rfl (.inl rfl) (pe_cl c_fault_of_methods hr (by decide) (by rfl) (pa_cons (pv 0) pa_nil)))) pss_nil)
      (pss_one (ps_ret (pv 1))))))), ?_⟩
    refine q_when (b := false) (et_is (et_not (et_test (ev_isC (ev_var rfl) ha ci.i ci.i.me))) rfl) (fun e => by cases e) (fun _ H1 x1 => ?_)
    have f1 := fa.ex x1
    refine q_asgAny (rd_call (rd_cons (rd_ev (ev_var rfl) fun H2 x2 => rd_nil ⟨a, d, rfl, f1.1.ex x2, f1.2.2.1, ?_⟩)))
    have x12 := x1.trans x2
    have q2 := q.ex x12
    clear q
    have two : ∀ {r : Addr} {H3 : Hp} {z : V}, z = .ref r → Q (.ref r) H3 → (∀ H4, Ex H3 H4 → Q (.ref r) H4) → True := fun _ _ _ => True.intro
    unfold pFault at q2
    cases hc : pClass d with
    | some z =>
      obtain ⟨z1, z2, z3⟩ := z
      rw [hc] at q2
      intro r H3 hr3 x3 h3
      refine q_when (b := false) (et_test (ev_isNr (ev_var rfl))) (fun e => by cases e) fun _ H4 x4 => ?_
      refine q_when (b := false) (et_test (ev_isNr (ev_var rfl))) (fun e => by cases e) fun _ H5 x5 => ?_
      exact s_ret (ev_var rfl) fun H6 x6 => q2 r H6 hr3 (((x3.trans x4).trans x5).trans x6) (((x4.trans x5).trans x6) _ _ h3)
    | none =>
      rw [hc] at q2
      intro H3 x3
      refine q_when (b := true) (et_test (ev_isN0 (ev_var rfl))) (fun _ H4 x4 => ?_) (fun e => by cases e)
      have f4 := (((f1.ex x2).ex x3).ex x4)
      refine q_asgAny2 (rd_call (rd_cons (rd_ev (ev_var rfl) fun H5 x5 => rd_nil ⟨a, d, rfl, f4.1.ex x5, f4.2.2.2.1, f4.2.2.2.2, ?_⟩)))
      have q5 := RetD.ex q2 ((x3.trans x4).trans x5)
      clear q2
      cases hf : pFields (isWide d) d.fields with
      | some z =>
        obtain ⟨z1, z2, z3⟩ := z
        rw [hf] at q5
        intro r H6 hr6 x6 h6
        refine q_when (b := false) (et_test (ev_isNr (ev_var rfl))) (fun e => by cases e) fun _ H7 x7 => ?_
        exact s_ret (ev_var rfl) fun H8 x8 => q5 r H8 hr6 ((x6.trans x7).trans x8) ((x7.trans x8) _ _ h6)
      | none =>
        rw [hf] at q5
        intro H6 x6
        refine q_when (b := true) (et_test (ev_isN0 (ev_var rfl))) (fun _ H7 x7 => ?_) (fun e => by cases e)
        have f7 := ((f4.ex x5).ex x6).ex x7
        refine q_asgAny2 (rd_call (rd_cons (rd_ev (ev_var rfl) fun H8 x8 => rd_nil ⟨a, d, ls, rfl, f7.1.ex x8, f7.2.1.ex x8, ?_⟩)))
        have q8 := RetD.ex q5 ((x6.trans x7).trans x8)
        clear q5
        cases hm : pMethods (isWide d) ls with
        | some z =>
          obtain ⟨z1, z2, z3⟩ := z
          rw [hm] at q8
          intro r H9 hr9 x9 h9
          exact s_ret (ev_var rfl) fun H10 x10 => q8 r H10 hr9 (x9.trans x10) (x10 _ _ h9)
        | none =>
          rw [hm] at q8
          intro H9 x9
          exact s_ret (ev_var rfl) fun H10 x10 => q8 H10 (x9.trans x10)
theorem ok_faultX {f : Addr} {fd : FuncData} (F : FnP K "fault" sFault f fd) (B : Bt mg) (ci : CFI K mg) (NF : NoF K mg C) (c_fault_of_class : Cl P w K mg base L2.CX0 2 "_fault_of_class" ["file"] (spFClass K)) (c_fault_of_fields : Cl P w K mg base L2.CX0 4 "_fault_of_fields" ["file"] (spFFields K))
    (c_fault_of_methods : Cl P w K mg base L2.CX0 10 "_fault_of_methods" ["file"] (spFMethods K)) : FnOk P w K mg base (L2.CX P w) 11 f fd ["file"] (spFaultX K C) := by
  have g_ClassFile := ci.g
  refine F.ok scFault (fun vs H Q E h => ?_) (fun cdv A outer s H vs Q E hr h => ?_)
  · obtain ⟨x, rfl, _⟩ := h
    rfl
  · obtain ⟨x, rfl, hx, q⟩ := h
    refine ⟨_, (pss_cons (ps_if (pt_not (pt_val (pe_callB call_isi (by rfl) B.isi (by decide +kernel) (pa_cons (pv 0) (pa_cons (pe_glob (v := .ref (cl K "ClassFile")) (by rfl) g_ClassFile rfl) pa_nil))))) (pss_one (ps_raise rfl (takes_of rfl rfl rfl rfl) (pmk_own0 PySem.F.excBase_ValueError NF.xP NF.gC NF.kC (raises_own NF.bP NF.tP) (by rfl)))) pss_nil)
      (pss_cons (ps_set (i := 1) scFault.nd rfl (.inl rfl) (pe_cl c_fault_of_class hr (by decide) (by rfl) (pa_cons (pv 0) pa_nil)))
      (pss_cons (ps_if (pt_cmpR op_isN (pv 1) pe_non (nomark _)) (pss_one (ps_set (i := 1) scFault.nd rfl (.inl rfl) (pe_cl c_fault_of_fields hr (by decide) (by rfl) (pa_cons (pv 0) pa_nil)))) pss_nil)
      (pss_cons (ps_if (pt_cmpR op_isN (pv 1) pe_non (nomark _)) (pss_one (ps_set (i := 1) scFault.nd rfl (.inl rfl) (pe_cl c_fault_of_methods hr (by decide) (by rfl) (pa_cons (pv 0) pa_nil)))) pss_nil)
      (pss_one (ps_ret (pv 1))))))), ?_⟩
    refine q_when (b := true) (et_is (et_not (et_test (ev_notFile (ev_var rfl) hx))) rfl) (fun _ H1 x1 => ?_) (fun e => by cases e)
    exact q H1 x1
theorem ok_lawSaid {f : Addr} {fd : FuncData} (F : FnP K "_law_said" sLawSaid f fd) (B : Bt mg) (NF : NoF K mg C) (gT : ∃ T, mg "TypegateError" = some (.ref T)) (c_fault : Cl P w K mg base (L2.CX P w) 11 "fault" ["file"] (spFaultX K C)) : FnOk P w K mg base L2.CX0 12 f fd ["thing"] (spSaid K) := by
  obtain ⟨f1, fd1, G1, m1, k1, b1⟩ := c_fault.ex
  obtain ⟨T, gT⟩ := gT
  refine F.ok scLawSaid (fun vs H Q E h => ?_) (fun cdv A outer s H vs Q E hr h => ?_)
  · obtain ⟨x, rfl, _⟩ := h
    rfl
  · obtain ⟨x, rfl, hx, q⟩ := h
    refine ⟨_, PSs.nox (pss_cons (ps_try_many (tb := fun W => tDrop (tCallS (spFaultX K C) (WE W) (tCons (tVar 0) tNil))) (Wout := fun _ _ _ _ => False) rfl rfl takes0
      (fun W pn xe tk _ => pss_one (ps_expr (by exact (pe_callS G1 hr (by rfl) m1 k1 b1 (fun σ => passAt tk σ) (by exact (pa_cons (pv 0) pa_nil))))))
      (.cons (ts := fun _ _ _ => tRet (tC (.str "none"))) ⟨rfl, by decide, Or.inl NF.gC⟩ (fun a oe cls d pn hz hf => pss_one (ps_ret (by exact pe_str))) (.cons (ts := fun _ _ _ => tRet (tC (.str "other"))) ⟨rfl, by decide, Or.inl gT⟩ (fun a oe cls d pn hz hf => pss_one (ps_ret (by exact pe_str))) .nil))) (pss_one (ps_ret pe_non))), ?_⟩
    refine rd_seq ⟨x, rfl, x, rfl, hx, fun H1 x1 => ⟨true, NF.eP, fun _ a ha => q H1 x1, fun h => by cases h⟩⟩
end
end N8

set_option maxHeartbeats 4000000
namespace N8
open PySem PySem.Spec PyProof.Rows L2 Evl
open SX (S)
abbrev sIsInstruction : Stmt := topS 38
theorem scIsInstruction : FnScope ["thing", "sorts", "right", "argument", "sort"] ["thing"] (L2.defScope sIsInstruction) := ⟨rfl, rfl, rfl, by decide +kernel, rfl, by decide +kernel, by decide +kernel⟩
abbrev sAgrees : Stmt := topS 43
theorem scAgrees : FnScope ["row"] ["row"] (L2.defScope sAgrees) := ⟨rfl, rfl, rfl, by decide +kernel, rfl, by decide +kernel, by decide +kernel⟩
abbrev sAscends : Stmt := topS 44
theorem scAscends : FnScope ["row", "pairs", "k"] ["row"] (L2.defScope sAscends) := ⟨rfl, rfl, rfl, by decide +kernel, rfl, by decide +kernel, by decide +kernel⟩
abbrev sHasRightPairs : Stmt := topS 45
theorem scHasRightPairs : FnScope ["row", "pair"] ["row"] (L2.defScope sHasRightPairs) := ⟨rfl, rfl, rfl, by decide +kernel, rfl, by decide +kernel, by decide +kernel⟩
abbrev sTargets : Stmt := topS 46
theorem scTargets : FnScope ["row", "pair"] ["row"] (L2.defScope sTargets) := ⟨rfl, rfl, rfl, by decide +kernel, rfl, by decide +kernel, by decide +kernel⟩
abbrev sKept : Stmt := topS 47
theorem scKept : FnScope ["row"] ["row"] (L2.defScope sKept) := ⟨rfl, rfl, rfl, by decide +kernel, rfl, by decide +kernel, by decide +kernel⟩
abbrev sKeptRows : Stmt := topS 66
theorem scKeptRows : FnScope ["rows", "index", "row", "target"] ["rows"] (L2.defScope sKeptRows) := ⟨rfl, rfl, rfl, by decide +kernel, rfl, by decide +kernel, by decide +kernel⟩
abbrev sKeptHandlers : Stmt := topS 67
theorem scKeptHandlers : FnScope ["handlers", "many", "number", "handler"] ["handlers", "many"] (L2.defScope sKeptHandlers) := ⟨rfl, rfl, rfl, by decide +kernel, rfl, by decide +kernel, by decide +kernel⟩
abbrev sKeptFrames : Stmt := topS 69
theorem scKeptFrames : FnScope ["frames", "many", "least", "number", "frame", "index", "places", "stack"] ["frames", "many"] (L2.defScope sKeptFrames) := ⟨rfl, rfl, rfl, by decide +kernel, rfl, by decide +kernel, by decide +kernel⟩
abbrev sCodeInit : Stmt := (inCls (topS 57)).getD 0 (.Pass ⟨0, 0, 0, 0⟩)
theorem scCodeInit : FnScope ["self", "stack", "places", "rows", "handlers", "frames"] ["self", "stack", "places", "rows", "handlers", "frames"] (L2.defScope sCodeInit) := ⟨rfl, rfl, rfl, by decide +kernel, rfl, by decide +kernel, by decide +kernel⟩
abbrev sUncutInit : Stmt := (inCls (topS 58)).getD 0 (.Pass ⟨0, 0, 0, 0⟩)
theorem scUncutInit : FnScope ["self", "why", "at"] ["self", "why", "at"] (L2.defScope sUncutInit) := ⟨rfl, rfl, rfl, by decide +kernel, rfl, by decide +kernel, by decide +kernel⟩

/-! ### what is never reached -/
theorem pe_never {X : Cx} {e : Expr} : PE X e (fun _ _ _ => False) := ⟨fun _ _ _ _ _ _ h => h.elim⟩
theorem pss_never {X : Cx} {l : List Stmt} : PSs X l (fun _ _ _ => False) := ⟨fun _ _ _ _ _ _ h => h.elim⟩
def two : List Str := ["return", "nop"]
/-- an instruction of one word -/
def spIns : Sp := fun vs H Q _ => ∃ (t : Addr) (z : Str), vs = [.ref t] ∧ H t = some (.tup [.str z]) ∧ z ∈ two ∧ RetV (.bl true) H Q
def spTargets : Sp := fun vs H Q _ => ∃ (t : Addr) (z : Str), vs = [.ref t] ∧ H t = some (.tup [.str z]) ∧ z ∈ two ∧ RetL [] H Q
def spKeptI : Sp := fun vs H Q _ => ∃ (t : Addr) (z : Str), vs = [.ref t] ∧ H t = some (.tup [.str z]) ∧ z ∈ two ∧ RetV (.ref t) H Q
def spKRows : Sp := fun vs H Q _ => ∃ (p t : Addr) (z : Str), vs = [.ref p] ∧ H p = some (.lst [.ref t]) ∧ H t = some (.tup [.str z]) ∧ z ∈ two ∧ ∀ q xs H', H q = none → Ex H H' → H' q = some (.tup xs) → xs.length = 1 → Q (.ref q) H'
def spKNone : Sp := fun vs H Q _ => ∃ (p : Addr) (n : Int), vs = [.ref p, .int n] ∧ H p = some (.lst []) ∧ ∀ q H', H q = none → Ex H H' → H' q = some (.tup []) → Q (.ref q) H'
/-- the table of words -/
def Args (K : PySem.W.Frag) (w : World) (mg : Str → Option Value) : Prop := ∃ a es n, mg "ARGUMENTS" = some (.ref a) ∧ KDict K w a es n ∧ ∀ z ∈ two, ∃ t, PySem.W.nsIn K a z = some (some (.ref t)) ∧ ∀ H, SqT K H t []
theorem two_ne {z y : Str} (h : z ∈ two) (hy : y ∉ two) : decide (z = y) = false := decide_eq_false fun e => hy (e ▸ h)
section
variable {K : PySem.W.Frag} {σ : L2.St} {H H' : Hp} {te ta tb tl : TE} {t : TT} {r : R2} {v x : V} {D : Ends} {tz tu : TS} {Q : VK}
/-- a comprehension over nothing -/
theorem lc_stop {J : It} {H1 : Hp} {p : Addr} {R : (Nat → Nat → Hp → Prop) → Nat → Nat → Hp → Prop} {Qd : Hp → Prop} (h1 : J.stop 0 (upd H1 p (.lst []))) (h2 : Qd (upd H1 p (.lst []))) : ∃ W : Nat → Nat → Hp → Prop, (∃ m, W 0 m (upd H1 p (.lst []))) ∧ ∀ i m H, W i m H → (J.stop i H ∧ Qd H) ∨ R W i m H :=
  ⟨fun i _ H => i = 0 ∧ H = upd H1 p (.lst []), ⟨0, rfl, rfl⟩, fun i m H hw => by
    obtain ⟨rfl, rfl⟩ := hw
    exact .inl ⟨h1, h2⟩⟩
theorem for_stop {J : It} {R : (Nat → Nat → L2.St → Hp → Prop) → Nat → Nat → L2.St → Hp → Prop} {Qd : L2.St → Hp → Prop} (h1 : J.stop 0 H) (h2 : Qd σ H) : ∃ W : Nat → Nat → L2.St → Hp → Prop, (∃ m, W 0 m σ H) ∧ ∀ i m σ H, W i m σ H → (J.stop i H ∧ Qd σ H) ∨ R W i m σ H :=
  ⟨fun i _ σ' H' => i = 0 ∧ σ' = σ ∧ H' = H, ⟨0, rfl, rfl, rfl⟩, fun i m σ' H' hw => by
    obtain ⟨rfl, rfl, rfl⟩ := hw
    exact .inl ⟨h1, h2⟩⟩
theorem ev_word {p : Addr} {z : Str} {i : Nat} (hi : σ[i]? = some (some (.ref p))) (hp : H p = some (.tup [.str z])) : Ev (tOp (rIxT K) (tVar i) (tC (.int 0))) σ H (.str z) := ev_op (ev_var hi) ev_c (rv_ixT (st_of hp) rfl)
theorem ev_eqW {z y : Str} (h : Ev te σ H (.str z)) (hz : z ∈ two) (hy : y ∉ two) : Ev (tOp rEq te (tC (.str y))) σ H (.bl false) := ev_is (ev_eqSV h) (congrArg V.bl (two_ne hz hy))
theorem ev_neWd {z y : Str} (h : Ev te σ H (.str z)) (hz : z ∈ two) (hy : y ∉ two) : Ev (tOp rNe te (tC (.str y))) σ H (.bl true) := ev_is (ev_neSV h) (by rw [two_ne hz hy]; rfl)
end
section
variable {P : Program} {w : World} {K : PySem.W.Frag} {mg : Str → Option Value} {base : Heap}
theorem ok_agrees {f : Addr} {fd : FuncData} (F : FnP K "_agrees" sAgrees f fd) (B : Bt mg) : FnOk P w K mg base L2.CX0 1 f fd ["row"] spIns := by
  refine F.ok scAgrees (fun vs H Q E h => ?_) (fun cdv A outer s H vs Q E hr h => ?_)
  · obtain ⟨t, z, rfl, _⟩ := h
    rfl
  · obtain ⟨t, z, rfl, ht, hz, q⟩ := h
    refine ⟨_, PSs.nox (pss_cons (ps_if (pt_cmpR op_eq (pe_ix ix_tup (pv 0) pe_int (fun _ _ => rfl)) pe_str (nomark _)) pss_never pss_nil) (pss_cons (ps_if (PW.pt (pw_and (pt_cmpR op_eq (pe_ix ix_tup (pv 0) pe_int (fun _ _ => rfl)) pe_str (nomark _)) (pw_and1 (pt_cmpR op_eq pe_never pe_str (nomark _))))) pss_never pss_nil) (pss_one (ps_ret pe_bl)))), ?_⟩
    refine q_when (b := false) (et_test (ev_eqW (ev_word rfl ht) hz (by decide))) (fun e => by cases e) fun _ H1 x1 => ?_
    refine q_when (b := false) (et_is (et_and (a := false) (b := false) (et_test (ev_eqW (ev_word rfl (x1 _ _ ht)) hz (by decide))) fun e => by cases e) rfl) (fun e => by cases e) fun _ H2 x2 => ?_
    exact s_ret ev_c fun H3 x3 => q H3 ((x1.trans x2).trans x3)
theorem ok_ascends {f : Addr} {fd : FuncData} (F : FnP K "ascends" sAscends f fd) (B : Bt mg) : FnOk P w K mg base L2.CX0 1 f fd ["row"] spIns := by
  refine F.ok scAscends (fun vs H Q E h => ?_) (fun cdv A outer s H vs Q E hr h => ?_)
  · obtain ⟨t, z, rfl, _⟩ := h
    rfl
  · obtain ⟨t, z, rfl, ht, hz, q⟩ := h
    refine ⟨_, PSs.nox (pss_cons (ps_if (pt_cmpR op_ne (pe_ix ix_tup (pv 0) pe_int (fun _ _ => rfl)) pe_str (nomark _)) (pss_one (ps_ret pe_bl)) pss_nil) pss_never), ?_⟩
    refine q_when (b := true) (et_test (ev_neWd (ev_word rfl ht) hz (by decide))) (fun _ H1 x1 => ?_) (fun e => by cases e)
    exact s_ret ev_c fun H3 x3 => q H3 (x1.trans x3)
theorem ok_rightPairs {f : Addr} {fd : FuncData} (F : FnP K "has_right_pairs" sHasRightPairs f fd) (B : Bt mg) (c_ascends : Cl P w K mg base L2.CX0 1 "ascends" ["row"] spIns) : FnOk P w K mg base L2.CX0 2 f fd ["row"] spIns := by
  refine F.ok scHasRightPairs (fun vs H Q E h => ?_) (fun cdv A outer s H vs Q E hr h => ?_)
  · obtain ⟨t, z, rfl, _⟩ := h
    rfl
  · obtain ⟨t, z, rfl, ht, hz, q⟩ := h
    refine ⟨_, PSs.nox (pss_one (ps_ret (pe_and (pe_cl c_ascends hr (by decide) (by rfl) (pa_cons (pv 0) pa_nil)) (pe_one (pe_or (pe_cmpR op_ne (pe_ix ix_tup (pv 0) pe_int (fun _ _ => rfl)) pe_str (nomark _)) (pe_one pe_never)))))), ?_⟩
    exact s_ret (ev_is (ev_andV (a := true) (b := true) (ev_call (ea_cons (ev_var rfl) ea_nil) fun H1 e1 Q' q' E' => ⟨t, z, rfl, e1 _ _ ht, hz, q'⟩) fun _ => ev_is (ev_orV (a := true) (b := false) (ev_neWd (ev_word rfl ht) hz (by decide)) fun e => by cases e) rfl) rfl) fun H3 x3 => q H3 x3
theorem ok_kept {f : Addr} {fd : FuncData} (F : FnP K "kept" sKept f fd) (B : Bt mg) : FnOk P w K mg base L2.CX0 1 f fd ["row"] spKeptI := by
  refine F.ok scKept (fun vs H Q E h => ?_) (fun cdv A outer s H vs Q E hr h => ?_)
  · obtain ⟨t, z, rfl, _⟩ := h
    rfl
  · obtain ⟨t, z, rfl, ht, hz, q⟩ := h
    refine ⟨_, PSs.nox (pss_cons (ps_if (pt_cmpR op_eq (pe_ix ix_tup (pv 0) pe_int (fun _ _ => rfl)) pe_str (nomark _)) pss_never pss_nil) (pss_one (ps_ret (pv 0)))), ?_⟩
    refine q_when (b := false) (et_test (ev_eqW (ev_word rfl ht) hz (by decide))) (fun e => by cases e) fun _ H1 x1 => ?_
    exact s_ret (ev_var rfl) fun H3 x3 => q H3 (x1.trans x3)
theorem ok_targets {f : Addr} {fd : FuncData} (F : FnP K "targets" sTargets f fd) (B : Bt mg) (ar : Args K w mg) : FnOk P w K mg base L2.CX0 1 f fd ["row"] spTargets := by
  obtain ⟨aAR, es, nn, g_ARGUMENTS, kD, hAr⟩ := ar
  refine F.ok scTargets (fun vs H Q E h => ?_) (fun cdv A outer s H vs Q E hr h => ?_)
  · obtain ⟨t, z, rfl, _⟩ := h
    rfl
  · obtain ⟨t, z, rfl, ht, hz, q⟩ := h
    obtain ⟨tz, n1, hT⟩ := hAr z hz
    refine ⟨_, PSs.nox (pss_cons (ps_if (pt_cmpR op_eq (pe_ix ix_tup (pv 0) pe_int (fun _ _ => rfl)) pe_str (nomark _)) pss_never pss_nil) (pss_cons (ps_if (pt_cmpR (op_eqD hr.units) (pe_ix ix_kdict (pe_glob (v := .ref aAR) (by rfl) g_ARGUMENTS rfl) (pe_ix ix_tup (pv 0) pe_int (fun _ _ => rfl)) (fun _ _ => rfl)) (pe_tup (pa_cons pe_str pa_nil)) (nomark _)) pss_never pss_nil) (pss_one (ps_ret (pe_lst pa_nil))))), ?_⟩
    refine q_when (b := false) (et_test (ev_eqW (ev_word rfl ht) hz (by decide))) (fun e => by cases e) fun _ H1 x1 => ?_
    refine q_when (b := false) (et_test (ev_opU (xs := [.str "jump"]) (x := .ref tz) (ev_op (x := .ref aAR) (y := .str z) ev_c (ev_word rfl (x1 _ _ ht)) fun H2 e2 Q' q' => ⟨aAR, z, .ref tz, rfl, rfl, ⟨es, nn, _, kD.at_, kD.lit, n1, rfl⟩, q' H2 (Ex.refl H2)⟩) (eu_tup (ea_cons ev_c ea_nil) (by show 1 ≤ 100000; decide)) fun r H2 h2 x2 => fun H3 x3 Q' q' => ⟨.tuple [], .tuple [.str "jump"], .tup (hT _) .nil, .tup (st_of (x3 _ _ h2)) (.cons (.str _) .nil), by decide +kernel, by decide +kernel, q' H3 (Ex.refl H3)⟩)) (fun e => by cases e) fun _ H2 x2 => ?_
    exact s_retL (el_lst ea_nil (by decide)) fun p H3 hp x3 h3 => q p H3 (fresh_back (x1.trans x2) hp) ((x1.trans x2).trans x3) h3
theorem ok_isInstruction {f : Addr} {fd : FuncData} (F : FnP K "is_instruction" sIsInstruction f fd) (B : Bt mg) (ar : Args K w mg) (c_agrees : Cl P w K mg base L2.CX0 1 "_agrees" ["row"] spIns) : FnOk P w K mg base L2.CX0 2 f fd ["thing"] spIns := by
  obtain ⟨aAR, es, nn, g_ARGUMENTS, kD, hAr⟩ := ar
  refine F.ok scIsInstruction (fun vs H Q E h => ?_) (fun cdv A outer s H vs Q E hr h => ?_)
  · obtain ⟨t, z, rfl, _⟩ := h
    rfl
  · obtain ⟨t, z, rfl, ht, hz, q⟩ := h
    obtain ⟨tz, n1, hT⟩ := hAr z hz
    refine ⟨_, PSs.nox (pss_cons (ps_if (PW.pt (pw_or (pt_not (pt_val (pe_callB call_isi (by rfl) B.isi (by decide +kernel) (pa_cons (pv 0) (pa_cons (pe_bltn (v := .ty "tuple") (by rfl) B.tuple (by decide +kernel) rfl) pa_nil))))) (pw_or (pt_cmpR op_eq (pe_callB call_len_seq (by rfl) B.len PySem.boot_len (pa_cons (pv 0) pa_nil)) pe_int (nomark _)) (pw_or1 (pt_not (pt_val (pe_callB call_isi (by rfl) B.isi (by decide +kernel) (pa_cons (pe_ix ix_tup (pv 0) pe_int (fun _ _ => rfl)) (pa_cons (pe_bltn (v := .ty "str") (by rfl) B.str (by decide +kernel) rfl) pa_nil))))))))) (pss_one (ps_ret pe_bl)) pss_nil)
      (pss_cons (ps_if (pt_cmpR (op_notIn_kd kD) (pe_ix ix_tup (pv 0) pe_int (fun _ _ => rfl)) (pe_glob (v := .ref aAR) (by rfl) g_ARGUMENTS rfl) rfl) (pss_one (ps_ret pe_bl)) pss_nil)
      (pss_cons (ps_set (i := 1) scIsInstruction.nd rfl (.inl rfl) (pe_ix ix_kdict (pe_glob (v := .ref aAR) (by rfl) g_ARGUMENTS rfl) (pe_ix ix_tup (pv 0) pe_int (fun _ _ => rfl)) (fun _ _ => rfl)))
      (pss_cons (ps_if (pt_cmpR op_ne (pe_callB call_len_seq (by rfl) B.len PySem.boot_len (pa_cons (pv 0) pa_nil)) (pe_op op_add pe_int (pe_callB call_len_seq (by rfl) B.len PySem.boot_len (pa_cons (pv 1) pa_nil))) (nomark _)) (pss_one (ps_ret pe_bl)) pss_nil)
      (pss_cons (ps_setLc (i := 2) (own := [("argument", 3), ("sort", 4)]) (g := gTup K 2 (gCons (gName 3) (gCons (gName 4) gNil))) (tt := tYes) rfl scIsInstruction.nd rfl rfl (sw_true rfl rfl rfl (by decide +kernel)) (RZ.pi_zipA (by rfl) B.zip (pa_cons (pe_slice sl_tup (pv 0) (po_some pe_int) po_none) (pa_cons (pv 1) pa_nil))) (blkOk_by (N := ["thing", "sorts", "right", "argument", "sort"]) (sc := L2.defScope sIsInstruction) (by decide +kernel)) (fun _ _ _ _ _ => (pg_tup rfl (pgs_cons (pg_name (i := 3) scIsInstruction.nd rfl (.inl rfl)) (pgs_cons (pg_name (i := 4) scIsInstruction.nd rfl (.inl rfl)) pgs_nil)))) (fun _ _ _ _ _ => pts_nil) (fun _ _ _ _ _ => pe_never))
      (pss_one (ps_ret (pe_and (pe_callB (cr_all rfl) (by rfl) B.all (by decide +kernel) (pa_cons (pv 2) pa_nil)) (pe_one (pe_cl c_agrees hr (by decide) (by rfl) (pa_cons (pv 0) pa_nil))))))))))), ?_⟩
    refine q_when (b := false) (et_is (et_or (a := false) (b := false) (et_is (et_not (et_test (ev_isi (b := true) (ev_var rfl) (.base (.tup ht)) (by decide +kernel)))) rfl) fun _ => et_is (et_or (a := false) (b := false) (et_test (ev_is (ev_op (ev_lenTup (ev_var rfl) ht) ev_c rv_eqI) rfl)) fun _ => et_is (et_not (et_test (ev_isStr (ev_word rfl ht)))) rfl) rfl) rfl) (fun e => by cases e) fun _ H1 x1 => ?_
    refine q_when (b := false) (et_test (ev_op (x := .str z) (y := .ref aAR) (ev_word rfl (x1 _ _ ht)) ev_c fun H2 e2 Q' q' => ⟨z, _, rfl, rfl, n1, q' H2 (Ex.refl H2)⟩)) (fun e => by cases e) fun _ H2 x2 => ?_
    have x12 := x1.trans x2
    refine q_asg (v := .ref tz) (ev_op (x := .ref aAR) (y := .str z) ev_c (ev_word rfl (x12 _ _ ht)) fun H2 e2 Q' q' => ⟨aAR, z, .ref tz, rfl, rfl, ⟨es, nn, _, kD.at_, kD.lit, n1, rfl⟩, q' H2 (Ex.refl H2)⟩) fun H3 x3 => ?_
    have x13 := x12.trans x3
    refine q_when (b := false) (et_test (ev_is (ev_op (x := .int 1) (y := .int 1) (ev_lenTup (ev_var rfl) (x13 _ _ ht)) (ev_op (x := .int 1) (y := .int 0) ev_c (fun H4 e4 Q' q' => ⟨.ref tz, rfl, tz, [], rfl, .inr (hT _), q' H4 (Ex.refl H4)⟩) rv_I0) rv_neI) rfl)) (fun e => by cases e) fun _ H4 x4 => ?_
    have x14 := x13.trans x4
    refine q_asgAny ⟨.ref t, rfl, 1, rfl, t, [.str z], rfl, st_of (x14 _ _ ht), (fun y => by cases y.1), fun r hr => ⟨.ref tz, rfl, r, tz, [], [], rfl, .inr ⟨st_of (by rw [upd_same]; rfl), hT _, fun Dl hD => ?_⟩⟩⟩
    have hDr : r ≠ Dl := fun e => by rw [← e, upd_same] at hD; cases hD
    have hst : (RZ.ItzT K r tz).stop 0 (upd (upd H4 r (.tup (cutV [V.str z] (some 1) none))) Dl (.lst [])) := ⟨[], [], st_of (by rw [upd_ne hDr, upd_same]; rfl), hT _, .inl (Nat.le_refl 0)⟩
    refine lc_stop hst ?_
    have x15 := (x14.trans (Ex.new (o := .tup []) hr)).trans (Ex.new (o := .lst []) hD)
    exact s_ret (ev_is (ev_andV (a := true) (b := true) (fun H5 e5 Q' q' => ⟨.ref Dl, rfl, Dl, [], rfl, sq_of (e5 _ _ upd_same), q' H5 (Ex.refl H5)⟩) fun _ => ev_call (ea_cons (ev_var rfl) ea_nil) fun H5 e5 Q' q' E' => ⟨t, z, rfl, (x15.trans e5) _ _ ht, hz, q'⟩) rfl) fun H6 x6 => q H6 (x15.trans x6)
end
end N8

set_option maxHeartbeats 4000000
namespace N8
open PySem PySem.Spec PyProof.Rows L2 Evl
open SX (S)
/-- Code and Uncut, as their own methods ask -/
structure CKK (K : PySem.W.Frag) : Prop where
  c : Cls K (cl K "Code")
  no : ∀ f ∈ (["stack", "places", "rows", "handlers", "frames"] : List Str), NoAttr K (cl K "Code") f
  u : Cls K (cl K "Uncut")
  nu : ∀ f ∈ (["why", "at"] : List Str), NoAttr K (cl K "Uncut") f
def spCodeI (K : PySem.W.Frag) : Sp := fun vs H Q _ => ∃ (a dx p t ph pf : Addr) (hi : Int) (z : Str), vs = [.ref a, .int 0, .int hi, .ref p, .ref ph, .ref pf] ∧ H a = some (.ins (cl K "Code") dx []) ∧ 0 ≤ hi ∧ hi ≤ 255 ∧ H p = some (.lst [.ref t]) ∧ H t = some (.tup [.str z]) ∧ z ∈ two ∧ H ph = some (.lst []) ∧ H pf = some (.lst []) ∧
  ∀ H' fs, Exa a H H' → H' a = some (.ins (cl K "Code") dx fs) → List.lookup ("places" : Str) fs = some (V.int hi) → Q .non H'
def uw : List Str := ["opcode", "cut", "switch", "local", "jump", "sort", "count", "handler", "map"]
def spUncI (K : PySem.W.Frag) : Sp := fun vs H Q _ => ∃ (a dx : Addr) (z : Str) (k : Int), vs = [.ref a, .str z, .int k] ∧ H a = some (.ins (cl K "Uncut") dx []) ∧ z ∈ uw ∧ 0 ≤ k ∧ ∀ H' fs, Exa a H H' → H' a = some (.ins (cl K "Uncut") dx fs) → Q .non H'
section
variable {P : Program} {w : World} {K : PySem.W.Frag} {mg : Str → Option Value} {base : Heap}
theorem ok_keptRows {f : Addr} {fd : FuncData} (F : FnP K "_kept_rows" sKeptRows f fd) (B : Bt mg) (gM : ∃ t, mg "MOST_ROWS" = some (.int 65535 t)) (c_is_row : Cl P w K mg base L2.CX0 1 "is_row" ["thing"] (spRow K)) (c_is_instruction : Cl P w K mg base L2.CX0 2 "is_instruction" ["thing"] spIns)
    (c_has_right_pairs : Cl P w K mg base L2.CX0 2 "has_right_pairs" ["row"] spIns) (c_targets : Cl P w K mg base L2.CX0 1 "targets" ["row"] spTargets) (c_kept : Cl P w K mg base L2.CX0 1 "kept" ["row"] spKeptI) : FnOk P w K mg base L2.CX0 3 f fd ["rows"] spKRows := by
  obtain ⟨tM, g_MOST_ROWS⟩ := gM
  refine F.ok scKeptRows (fun vs H Q E h => ?_) (fun cdv A outer s H vs Q E hr h => ?_)
  · obtain ⟨p, t, z, rfl, _⟩ := h
    rfl
  · obtain ⟨p, t, z, rfl, hp, ht, hz, q⟩ := h
    refine ⟨_, PSs.nox (pss_cons (ps_if (PW.pt (pw_or (pt_not (pt_val (pe_cl c_is_row hr (by decide) (by rfl) (pa_cons (pv 0) pa_nil)))) (pw_or1 (pt_not (pt_chain op_le op_le pe_int (pe_callB call_len_seq (by rfl) B.len PySem.boot_len (pa_cons (pv 0) pa_nil)) (pe_glob (v := .int 65535) (by rfl) g_MOST_ROWS ⟨_, rfl⟩)))))) (pss_one ps_never) pss_nil)
      (pss_cons (ps_for PassesOwn.never rfl (pi_enum (by rfl) B.enumerate (pa_cons (pv 0) pa_nil)) (pg_tup rfl (pgs_cons (pg_name (i := 1) scKeptRows.nd rfl (.inl rfl)) (pgs_cons (pg_name (i := 2) scKeptRows.nd rfl (.inl rfl)) pgs_nil))) (pss_cons (ps_if (pt_not (pt_val (pe_cl c_is_instruction hr (by decide) (by rfl) (pa_cons (pv 2) pa_nil)))) (pss_one ps_never) pss_nil)
      (pss_cons (ps_if (pt_not (pt_val (pe_cl c_has_right_pairs hr (by decide) (by rfl) (pa_cons (pv 2) pa_nil)))) (pss_one ps_never) pss_nil)
      (pss_one (ps_if (pt_not (pt_val (pe_callB (cr_all rfl) (by rfl) B.all (by decide +kernel) (pa_cons (pe_lc (own := [("target", 3)]) (g := gName 3) (tt := tYes) rfl scKeptRows.nd (pi_list (pe_cl c_targets hr (by decide) (by rfl) (pa_cons (pv 2) pa_nil))) (blkOk_by (N := ["rows", "index", "row", "target"]) (sc := L2.defScope sKeptRows) (by decide +kernel)) (fun _ _ _ _ _ => pg_name (i := 3) scKeptRows.nd rfl (Or.inl rfl)) (fun _ _ _ _ _ => pts_nil) (fun _ _ _ _ _ => pe_never)) pa_nil)))) (pss_one ps_never) pss_nil)))))
      (pss_one (ps_ret (pe_callTy call_tuple_of (by rfl) B.tuple (by decide +kernel) (pa_cons (pe_lc (own := [("row", 2)]) (g := gName 2) (tt := tYes) rfl scKeptRows.nd (pi_list (pv 0)) (blkOk_by (N := ["rows", "index", "row", "target"]) (sc := L2.defScope sKeptRows) (by decide +kernel)) (fun _ _ _ _ _ => pg_name (i := 2) scKeptRows.nd rfl (Or.inl rfl)) (fun _ _ _ _ _ => pts_nil) (fun _ _ _ _ _ => (pe_cl c_kept hr (by decide) (by rfl) (pa_cons (pv 2) pa_nil)))) pa_nil)))))), ?_⟩
    refine q_when (b := false) (et_is (et_or (a := false) (b := false) (et_is (et_not (et_test (ev_call (ea_cons (ev_var rfl) ea_nil) fun H1 e Q' q' E' => ⟨p, _, rfl, .inl (e _ _ hp), q'⟩))) rfl) fun _ => et_is (et_not (et_test (ev_chain (a := true) (b := true) ev_c (ev_lenLst (ev_var rfl) hp) (rv_is rv_le rfl) fun _ => ⟨ev_c, rv_is rv_le rfl⟩))) rfl) rfl) (fun e => by cases e) fun _ H1 x1 => ?_
    refine ⟨.ref p, rfl, p, _, rfl, sq_of (x1 _ _ hp), ?_⟩
    refine for_enumX (xs := [V.ref t]) (fun i σ' H' => Ex H1 H' ∧ ∃ v1 v2 v3, σ' = [some (.ref p), v1, v2, v3]) ⟨Ex.refl _, none, none, none, rfl⟩ (fun i σ' H' hP => ex_l (x1.trans hP.1) (sq_of hp)) (fun i x σ' H' T hx hP hT => ?_) (fun σ' H' hP => ?_)
    · obtain ⟨e, v1, v2, v3, rfl⟩ := hP
      obtain rfl : x = V.ref t := by
        have := List.mem_of_getElem? hx
        simpa using this
      refine ⟨T, _, rfl, st_of upd_same, rfl, .int (i : Nat), [V.ref t], rfl, V.ref t, [], rfl, rfl, ?_⟩
      have eT : Ex H1 (upd H' T (.tup [.int (i : Nat), .ref t])) := e.trans (Ex.new hT)
      generalize upd H' T (.tup [.int (i : Nat), .ref t]) = H2 at eT ⊢
      refine q_when (b := false) (et_is (et_not (et_test (ev_call (ea_cons (ev_var rfl) ea_nil) fun H3 e3 Q' q' E' => ⟨t, z, rfl, ((x1.trans eT).trans e3) _ _ ht, hz, q'⟩))) rfl) (fun e => by cases e) fun _ H3 x3 => ?_
      have x13 := (x1.trans eT).trans x3
      refine q_when (b := false) (et_is (et_not (et_test (ev_call (ea_cons (ev_var rfl) ea_nil) fun H4 e4 Q' q' E' => ⟨t, z, rfl, (x13.trans e4) _ _ ht, hz, q'⟩))) rfl) (fun e => by cases e) fun _ H4 x4 => ?_
      have x14 := x13.trans x4
      refine s_when (b := false) (et_is (et_not (et_test (ev_all (bs := []) ?_))) rfl) (fun e => by cases e) fun _ H5 x5 => ⟨((eT.trans x3).trans x4).trans x5, _, _, _, rfl⟩
      exact el_lcNL (xs := []) (fun _ => true) (fun _ => .non) (fun H5 e5 Q' q' => rd_call (rd_cons (rd_ev (ev_var rfl) fun H6 x6 => rd_nil ⟨t, z, rfl, ((x14.trans e5).trans x6) _ _ ht, hz, fun r H7 hr7 x7 h7 => q' r H7 (fresh_back x6 hr7) (x6.trans x7) h7⟩))) (by show 0 ≤ 40000; decide) (fun _ => rfl) (fun i x H2 _ hx => by simp at hx) (fun i x H2 _ hx => by simp at hx)
    · obtain ⟨e, v1, v2, v3, rfl⟩ := hP
      have e0 := x1.trans e
      dsimp only
      refine s_retU (eu_tupleL (xs := [V.ref t]) ?_) fun r H2 hr2 x2 h2 => q r _ H2 (fresh_back e0 hr2) (e0.trans x2) h2 rfl
      exact el_lcL (xs := [V.ref t]) (fun _ => true) (fun _ => .ref t) (ev_var rfl) (sq_of (e0 _ _ hp)) (by show 1 ≤ 40000; decide) (fun _ => rfl) (fun i x H2 _ hx => fun H3 e3 Q' q' => q' H3 (Ex.refl H3)) (fun i x H2 x2 hx _ => by
        obtain rfl : x = V.ref t := by
          have := List.mem_of_getElem? hx
          simpa using this
        exact ev_call (ea_cons (ev_var rfl) ea_nil) fun H3 e3 Q' q' E' => ⟨t, z, rfl, ((e0.trans x2).trans e3) _ _ ht, hz, q'⟩)
theorem ok_keptHandlers {f : Addr} {fd : FuncData} (F : FnP K "_kept_handlers" sKeptHandlers f fd) (B : Bt mg) (c_is_row : Cl P w K mg base L2.CX0 1 "is_row" ["thing"] (spRow K)) : FnOk P w K mg base L2.CX0 2 f fd ["handlers", "many"] spKNone := by
  refine F.ok scKeptHandlers (fun vs H Q E h => ?_) (fun cdv A outer s H vs Q E hr h => ?_)
  · obtain ⟨p, n, rfl, _⟩ := h
    rfl
  · obtain ⟨p, n, rfl, hp, q⟩ := h
    refine ⟨_, PSs.nox (pss_cons (ps_if (pt_not (pt_val (pe_cl c_is_row hr (by decide) (by rfl) (pa_cons (pv 0) pa_nil)))) (pss_one ps_never) pss_nil)
      (pss_cons (ps_for PassesOwn.never rfl (pi_enum (by rfl) B.enumerate (pa_cons (pv 0) pa_nil)) (pg_tup rfl (pgs_cons (pg_name (i := 2) scKeptHandlers.nd rfl (.inl rfl)) (pgs_cons (pg_name (i := 3) scKeptHandlers.nd rfl (.inl rfl)) pgs_nil))) pss_never)
      (pss_one (ps_ret (pe_callTy call_tuple_of (by rfl) B.tuple (by decide +kernel) (pa_cons (pv 0) pa_nil)))))), ?_⟩
    refine q_when (b := false) (et_is (et_not (et_test (ev_call (ea_cons (ev_var rfl) ea_nil) fun H1 e Q' q' E' => ⟨p, _, rfl, .inl (e _ _ hp), q'⟩))) rfl) (fun e => by cases e) fun _ H1 x1 => ?_
    refine ⟨.ref p, rfl, p, _, rfl, sq_of (x1 _ _ hp), ?_⟩
    have hst : (Ite K p).stop 0 H1 := ⟨[], sq_of (x1 _ _ hp), Nat.le_refl 0⟩
    refine for_stop hst ?_
    exact s_retU (eu_tupleV (ev_var rfl) (x1 _ _ hp)) fun r H2 hr2 x2 h2 => q r H2 (fresh_back x1 hr2) (x1.trans x2) h2
theorem ok_keptFrames {f : Addr} {fd : FuncData} (F : FnP K "_kept_frames" sKeptFrames f fd) (B : Bt mg) (c_is_row : Cl P w K mg base L2.CX0 1 "is_row" ["thing"] (spRow K)) : FnOk P w K mg base L2.CX0 2 f fd ["frames", "many"] spKNone := by
  refine F.ok scKeptFrames (fun vs H Q E h => ?_) (fun cdv A outer s H vs Q E hr h => ?_)
  · obtain ⟨p, n, rfl, _⟩ := h
    rfl
  · obtain ⟨p, n, rfl, hp, q⟩ := h
    refine ⟨_, PSs.nox (pss_cons (ps_if (pt_not (pt_val (pe_cl c_is_row hr (by decide) (by rfl) (pa_cons (pv 0) pa_nil)))) (pss_one ps_never) pss_nil)
      (pss_cons (ps_set (i := 2) scKeptFrames.nd rfl (.inl rfl) pe_int)
      (pss_cons (ps_for PassesOwn.never rfl (pi_enum (by rfl) B.enumerate (pa_cons (pv 0) pa_nil)) (pg_tup rfl (pgs_cons (pg_name (i := 3) scKeptFrames.nd rfl (.inl rfl)) (pgs_cons (pg_name (i := 4) scKeptFrames.nd rfl (.inl rfl)) pgs_nil))) pss_never)
      (pss_one (ps_ret (pe_callTy call_tuple_of (by rfl) B.tuple (by decide +kernel) (pa_cons (pe_lc (own := [("index", 5), ("places", 6), ("stack", 7)]) (g := gTup K 3 (gCons (gName 5) (gCons (gName 6) (gCons (gName 7) gNil)))) (tt := tYes) rfl scKeptFrames.nd (pi_list (pv 0)) (blkOk_by (N := ["frames", "many", "least", "number", "frame", "index", "places", "stack"]) (sc := L2.defScope sKeptFrames) (by decide +kernel)) (fun _ _ _ _ _ => (pg_tup rfl (pgs_cons (pg_name (i := 5) scKeptFrames.nd rfl (.inl rfl)) (pgs_cons (pg_name (i := 6) scKeptFrames.nd rfl (.inl rfl)) (pgs_cons (pg_name (i := 7) scKeptFrames.nd rfl (.inl rfl)) pgs_nil))))) (fun _ _ _ _ _ => pts_nil) (fun _ _ _ _ _ => pe_never)) pa_nil))))))), ?_⟩
    refine q_when (b := false) (et_is (et_not (et_test (ev_call (ea_cons (ev_var rfl) ea_nil) fun H1 e Q' q' E' => ⟨p, _, rfl, .inl (e _ _ hp), q'⟩))) rfl) (fun e => by cases e) fun _ H1 x1 => ?_
    refine q_asg ev_c fun H2 x2 => ?_
    have x12 := x1.trans x2
    refine ⟨.ref p, rfl, p, _, rfl, sq_of (x12 _ _ hp), ?_⟩
    have hst : (Ite K p).stop 0 H2 := ⟨[], sq_of (x12 _ _ hp), Nat.le_refl 0⟩
    refine for_stop hst ?_
    dsimp only
    refine rd_ret (rd_cb (rd_cons ⟨.ref p, rfl, p, rfl, ⟨[], sq_of (x12 _ _ hp)⟩, fun Dl hD => ?_⟩))
    have hst2 : (Itl K p).stop 0 (upd H2 Dl (.lst [])) := ⟨[], sq_of ((Ex.new hD) _ _ (x12 _ _ hp)), Nat.le_refl 0⟩
    refine lc_stop hst2 ?_
    have x13 := x12.trans (Ex.new (o := .lst []) hD)
    exact rd_nil ⟨Dl, [], rfl, .inl ⟨sq_of upd_same, fun l hl => q l _ (fresh_back x13 hl) (x13.trans (Ex.new hl)) upd_same⟩⟩
theorem ok_codeI {f : Addr} {fd : FuncData} (F : FunD K "__init__" "Code.__init__" (L2.defArgs sCodeInit) (L2.defBody sCodeInit) (L2.defScope sCodeInit) [] [] f fd) (B : Bt mg) (ck : CKK K) (gM : ∃ t, mg "MOST_PLACES" = some (.int 255 t)) (c_is_within : Cl P w K mg base L2.CX0 2 "is_within" ["thing", "low", "high"] spWithin)
    (c_kept_rows : Cl P w K mg base L2.CX0 3 "_kept_rows" ["rows"] spKRows) (c_kept_handlers : Cl P w K mg base L2.CX0 2 "_kept_handlers" ["handlers", "many"] spKNone) (c_kept_frames : Cl P w K mg base L2.CX0 2 "_kept_frames" ["frames", "many"] spKNone) :
    FnOk P w K mg base L2.CX0 4 f fd ["self", "stack", "places", "rows", "handlers", "frames"] (spCodeI K) := by
  obtain ⟨tM, g_MOST_PLACES⟩ := gM
  refine F.ok scCodeInit (fun vs H Q E h => ?_) (fun cdv A outer s H vs Q E hr h => ?_)
  · obtain ⟨a, dx, p, t, ph, pf, hi, z, rfl, _⟩ := h
    rfl
  · obtain ⟨a, dx, p, t, ph, pf, hi, z, rfl, ha, h0, h1, hp, ht, hz, hph, hpf, q⟩ := h
    refine ⟨_, PSs.nox (pss_cons (ps_if (pt_not (pt_val (pe_cl c_is_within hr (by decide) (by rfl) (pa_cons (pv 1) (pa_cons pe_int (pa_cons (pe_glob (v := .int 255) (by rfl) g_MOST_PLACES ⟨_, rfl⟩) pa_nil)))))) (pss_one ps_never) pss_nil)
      (pss_cons (ps_if (pt_not (pt_val (pe_cl c_is_within hr (by decide) (by rfl) (pa_cons (pv 2) (pa_cons pe_int (pa_cons (pe_glob (v := .int 255) (by rfl) g_MOST_PLACES ⟨_, rfl⟩) pa_nil)))))) (pss_one ps_never) pss_nil)
      (pss_cons (ps_fld (pv 0) (pv 1) rfl)
      (pss_cons (ps_fld (pv 0) (pv 2) rfl)
      (pss_cons (ps_fld (pv 0) (pe_cl c_kept_rows hr (by decide) (by rfl) (pa_cons (pv 3) pa_nil)) rfl)
      (pss_cons (ps_fld (pv 0) (pe_cl c_kept_handlers hr (by decide) (by rfl) (pa_cons (pv 4) (pa_cons (pe_callB call_len_seq (by rfl) B.len PySem.boot_len (pa_cons (pe_fld (pv 0) rfl) pa_nil)) pa_nil))) rfl)
      (pss_one (ps_fld (pv 0) (pe_cl c_kept_frames hr (by decide) (by rfl) (pa_cons (pv 5) (pa_cons (pe_callB call_len_seq (by rfl) B.len PySem.boot_len (pa_cons (pe_fld (pv 0) rfl) pa_nil)) pa_nil))) rfl)))))))), ?_⟩
    refine q_when (b := false) (et_is (et_not (et_test (ev_call (ea_cons (ev_var rfl) (ea_cons ev_c (ea_cons ev_c ea_nil))) fun H1 e Q' q' E' => ⟨_, 0, 255, true, rfl, .inl ⟨0, rfl, rfl⟩, q'⟩))) rfl) (fun e => by cases e) fun _ H1 x1 => ?_
    refine q_when (b := false) (et_is (et_not (et_test (ev_call (ea_cons (ev_var rfl) (ea_cons ev_c (ea_cons ev_c ea_nil))) fun H2 e Q' q' E' => ⟨_, 0, 255, true, rfl, .inl ⟨hi, rfl, by rw [decide_eq_true h0, decide_eq_true h1]; rfl⟩, q'⟩))) rfl) (fun e => by cases e) fun _ H2 x2 => ?_
    have e2 := x1.trans x2
    refine q_fldV ck.c (ck.no _ (by decide)) rfl (ev_var rfl) (e2 _ _ ha) (by decide) fun H3 x3 h3 => ?_
    have A3 : Exa a H (upd H3 a (.ins (cl K "Code") dx (putF "stack" (.int 0) []))) := (Exa.of (e2.trans x3)).trans exa_upd
    refine q_fldV ck.c (ck.no _ (by decide)) rfl (ev_var rfl) upd_same (Nat.le_of_ble_eq_true rfl) fun H4 x4 h4 => ?_
    have A4 : Exa a H (upd H4 a (.ins (cl K "Code") dx (putF "places" (.int hi) (putF "stack" (.int 0) [])))) := (A3.trans (Exa.of x4)).trans exa_upd
    have nl : ∀ {p : Addr} {xs : List V}, H p = some (.lst xs) → p ≠ a := fun {p xs} h z => by rw [z, ha] at h; cases h
    have ta : t ≠ a := fun z => by rw [z, ha] at ht; cases ht
    refine rd_fld (rd_call (rd_cons (rd_ev (ev_var rfl) fun H5 x5 => rd_nil ?_)))
    refine ⟨p, t, z, rfl, x5 _ _ (A4 _ _ (nl hp) hp), x5 _ _ (A4 _ _ ta ht), hz, fun qr xr H6 hqr x6 h6 lr => ⟨.ref a, rfl, a, _, dx, _, rfl, (x5.trans x6) _ _ upd_same, ck.c, ck.no _ (by decide), Nat.le_of_ble_eq_true rfl, ?_⟩⟩
    have h6a := (x5.trans x6) _ _ (upd_same (H := H4) (a := a) (o := .ins (cl K "Code") dx (putF "places" (.int hi) (putF "stack" (.int 0) []))))
    have hqra : qr ≠ a := fun z => by rw [z, h6a] at h6; cases h6
    generalize hH7 : upd H6 a (.ins (cl K "Code") dx (putF "rows" (.ref qr) (putF "places" (.int hi) (putF "stack" (.int 0) [])))) = H7
    have h7a : H7 a = some (.ins (cl K "Code") dx (putF "rows" (.ref qr) (putF "places" (.int hi) (putF "stack" (.int 0) [])))) := by rw [← hH7]; exact upd_same
    have h7r : H7 qr = some (.tup xr) := by rw [← hH7, upd_ne hqra]; exact h6
    have A7 : Exa a H H7 := by rw [← hH7]; exact (A4.trans (Exa.of (x5.trans x6))).trans exa_upd
    clear hH7
    refine rd_fld (rd_call (rd_cons (rd_ev (ev_var rfl) fun H8 x8 => rd_cons (rd_ev (ev_lenTup (ev_fld (v := .ref qr) (ev_var rfl) (x8 _ _ h7a) ck.c (ck.no _ (by decide)) rfl) (x8 _ _ h7r)) fun H9 x9 => rd_nil ?_))))
    have x79 := x8.trans x9
    refine ⟨ph, _, rfl, x79 _ _ (A7 _ _ (nl hph) hph), fun qh H10 hqh x10 h10 => ⟨.ref a, rfl, a, _, dx, _, rfl, (x79.trans x10) _ _ h7a, ck.c, ck.no _ (by decide), Nat.le_of_ble_eq_true rfl, ?_⟩⟩
    have h10a := (x79.trans x10) _ _ h7a
    have h10r := (x79.trans x10) _ _ h7r
    have hqha : qh ≠ a := fun z => by rw [z, h10a] at h10; cases h10
    generalize hH11 : upd H10 a (.ins (cl K "Code") dx (putF "handlers" (.ref qh) (putF "rows" (.ref qr) (putF "places" (.int hi) (putF "stack" (.int 0) []))))) = H11
    have h11a : H11 a = some (.ins (cl K "Code") dx (putF "handlers" (.ref qh) (putF "rows" (.ref qr) (putF "places" (.int hi) (putF "stack" (.int 0) []))))) := by rw [← hH11]; exact upd_same
    have h11r : H11 qr = some (.tup xr) := by rw [← hH11, upd_ne hqra]; exact h10r
    have A11 : Exa a H H11 := by rw [← hH11]; exact (A7.trans (Exa.of (x79.trans x10))).trans exa_upd
    clear hH11
    dsimp only
    refine rd_fldL (rd_call (rd_cons (rd_ev (ev_var rfl) fun H12 x12 => rd_cons (rd_ev (ev_lenTup (ev_fld (v := .ref qr) (ev_var rfl) (x12 _ _ h11a) ck.c (ck.no _ (by decide)) rfl) (x12 _ _ h11r)) fun H13 x13 => rd_nil ?_))))
    have x113 := x12.trans x13
    refine ⟨pf, _, rfl, x113 _ _ (A11 _ _ (nl hpf) hpf), fun qf H14 hqf x14 h14 => ⟨.ref a, rfl, a, _, dx, _, rfl, (x113.trans x14) _ _ h11a, ck.c, ck.no _ (by decide), Nat.le_of_ble_eq_true rfl, ?_⟩⟩
    exact q _ _ ((A11.trans (Exa.of (x113.trans x14))).trans exa_upd) upd_same rfl
theorem ok_uncI {f : Addr} {fd : FuncData} (F : FunD K "__init__" "Uncut.__init__" (L2.defArgs sUncutInit) (L2.defBody sUncutInit) (L2.defScope sUncutInit) [] [] f fd) (B : Bt mg) (ck : CKK K) (gU : GT K mg "UNCUT_WORDS" uw) (c_is_integer : Cl P w K mg base L2.CX0 1 "is_integer" ["thing"] spInt) :
    FnOk P w K mg base L2.CX0 2 f fd ["self", "why", "at"] (spUncI K) := by
  obtain ⟨aU, g_UNCUT_WORDS, hU⟩ := gU
  refine F.ok scUncutInit (fun vs H Q E h => ?_) (fun cdv A outer s H vs Q E hr h => ?_)
  · obtain ⟨a, dx, z, k, rfl, _⟩ := h
    rfl
  · obtain ⟨a, dx, z, k, rfl, ha, hz, hk, q⟩ := h
    refine ⟨_, PSs.nox (pss_cons (ps_if (PW.pt (pw_or (pt_cmpR op_notIn_seq (pv 1) (pe_glob (v := .ref aU) (by rfl) g_UNCUT_WORDS rfl) rfl) (pw_or (pt_not (pt_val (pe_cl c_is_integer hr (by decide) (by rfl) (pa_cons (pv 2) pa_nil)))) (pw_or1 (pt_cmpR op_lt (pv 2) pe_int (nomark _)))))) (pss_one ps_never) pss_nil)
      (pss_cons (ps_fld (pv 0) (pv 1) rfl)
      (pss_one (ps_fld (pv 0) (pv 2) rfl)))), ?_⟩
    refine q_when (b := false) (et_is (et_or (a := false) (b := false) (et_is (et_test (ev_niWT (ev_var rfl) ev_c (hU _))) (by rw [decide_eq_true hz]; rfl)) fun _ => et_is (et_or (a := false) (b := false) (et_is (et_not (et_test (ev_call (ea_cons (ev_var rfl) ea_nil) fun H1 e Q' q' E' => ⟨_, true, rfl, .int k, q'⟩))) rfl) fun _ => et_test (ev_is (ev_op (ev_var rfl) ev_c rv_I0) (congrArg V.bl (decide_eq_false (by omega))))) rfl) rfl) (fun e => by cases e) fun _ H1 x1 => ?_
    refine q_fldV ck.u (ck.nu _ (by decide)) rfl (ev_var rfl) (x1 _ _ ha) (by decide) fun H3 x3 h3 => ?_
    have A3 : Exa a H (upd H3 a (.ins (cl K "Uncut") dx (putF "why" (.str z) []))) := (Exa.of (x1.trans x3)).trans exa_upd
    dsimp only
    refine rd_fldL (rd_ev (ev_var rfl) fun H4 x4 => ⟨.ref a, rfl, a, _, dx, _, rfl, x4 _ _ upd_same, ck.u, ck.nu _ (by decide), Nat.le_of_ble_eq_true rfl, ?_⟩)
    exact q _ _ ((A3.trans (Exa.of x4)).trans exa_upd) upd_same
end
end N8

set_option maxHeartbeats 4000000
namespace N8
open PySem PySem.Spec PyProof.Rows L2 Evl
open SX (S)
/-! ### Code(..), Uncut(..) -/
structure MkCo (P : Program) (w : World) (K : PySem.W.Frag) (mg : Str → Option Value) (base : Heap) : Prop where
  m : mg "Code" = some (.ref (cl K "Code"))
  ex : ∃ (f : Addr) (fd : FuncData), Mk K (cl K "Code") f ∧ FnOk P w K mg base L2.CX0 4 f fd ["self", "stack", "places", "rows", "handlers", "frames"] (spCodeI K) ∧ Binds K fd ["self", "stack", "places", "rows", "handlers", "frames"] []
structure MkUn (P : Program) (w : World) (K : PySem.W.Frag) (mg : Str → Option Value) (base : Heap) : Prop where
  m : mg "Uncut" = some (.ref (cl K "Uncut"))
  ex : ∃ (f : Addr) (fd : FuncData), Mk K (cl K "Uncut") f ∧ FnOk P w K mg base L2.CX0 2 f fd ["self", "why", "at"] (spUncI K) ∧ Binds K fd ["self", "why", "at"] []
section
variable {X : Cx} {j : Nat} {e : Expr} {es : List Expr} {ta : TA} {p pos : Pos}
theorem MkCo.pe (M : MkCo X.prog X.w X.K X.mg X.base) (hr : Room j X.A) (hk : 5 ≤ j) (hg : Gl X "Code") (ha : PA X (e :: es) ta) (he : starEach (e :: es) X.env = (false, eval e X.env) :: starEach es X.env := by rfl) (hpl : (backTo pos (starEach es X.env)).any (·.1) = false := by rfl) :
    PE X (.Call (.Name "Code" p) (e :: es) [] pos) (tMake (cl X.K "Code") (spCodeI X.K) [] L2.E0 ta) := by
  obtain ⟨f, fd, mk, F, b⟩ := M.ex
  exact pe_make mk F (hr.mono hk) hg M.m b .nil L2.pass0 ha (by decide) he hpl
theorem MkUn.pe (M : MkUn X.prog X.w X.K X.mg X.base) (hr : Room j X.A) (hk : 3 ≤ j) (hg : Gl X "Uncut") (ha : PA X (e :: es) ta) (he : starEach (e :: es) X.env = (false, eval e X.env) :: starEach es X.env := by rfl) (hpl : (backTo pos (starEach es X.env)).any (·.1) = false := by rfl) :
    PE X (.Call (.Name "Uncut" p) (e :: es) [] pos) (tMake (cl X.K "Uncut") (spUncI X.K) [] L2.E0 ta) := by
  obtain ⟨f, fd, mk, F, b⟩ := M.ex
  exact pe_make mk F (hr.mono hk) hg M.m b .nil L2.pass0 ha (by decide) he hpl
end
section
variable {K : PySem.W.Frag} {σ : L2.St} {H H' : Hp} {te ta tb tl : TE} {tq tr : TA} {r : R2} {v x : V} {D : Ends} {tz tu : TS} {Q : VK}
theorem new_ins {H1 : Hp} {x dx C : Addr} (hx : H1 x = none) (hdx : H1 dx = none) : Ex H1 (upd (upd H1 dx (.own x)) x (.ins C dx [])) := fun b o hb => by rw [upd_ne (ne_of_none hb hx), upd_ne (ne_of_none hb hdx)]; exact hb
theorem make_code {H1 : Hp} {x dx p t ph pf : Addr} {hi : Int} {z : Str} {R : Hp → Prop} (hx : H1 x = none) (hdx : H1 dx = none) (h0 : 0 ≤ hi) (h1 : hi ≤ 255) (hp : H1 p = some (.lst [.ref t])) (ht : H1 t = some (.tup [.str z])) (hz : z ∈ two) (hph : H1 ph = some (.lst [])) (hpf : H1 pf = some (.lst []))
    (k : ∀ H2 dx fs, Ex H1 H2 → H2 x = some (.ins (cl K "Code") dx fs) → List.lookup ("places" : Str) fs = some (V.int hi) → R H2) :
    spCodeI K (.ref x :: ([.int 0, .int hi, .ref p, .ref ph, .ref pf] ++ [])) (upd (upd H1 dx (.own x)) x (.ins (cl K "Code") dx [])) (fun v H2 => v = .non ∧ R H2) L2.E0 := by
  have e1 := new_ins (C := cl K "Code") hx hdx
  refine ⟨x, dx, p, t, ph, pf, hi, z, rfl, upd_same, h0, h1, e1 _ _ hp, e1 _ _ ht, hz, e1 _ _ hph, e1 _ _ hpf, fun H' fs xa hf hl => ⟨rfl, k H' dx fs (fun b o hb => ?_) hf hl⟩⟩
  exact xa b o (ne_of_none hb hx) (e1 b o hb)
theorem make_unc {H1 : Hp} {x dx : Addr} {z : Str} {n : Int} {R : Hp → Prop} (hx : H1 x = none) (hdx : H1 dx = none) (hz : z ∈ uw) (h0 : 0 ≤ n) (k : ∀ H2 dx fs, Ex H1 H2 → H2 x = some (.ins (cl K "Uncut") dx fs) → R H2) :
    spUncI K (.ref x :: ([.str z, .int n] ++ [])) (upd (upd H1 dx (.own x)) x (.ins (cl K "Uncut") dx [])) (fun v H2 => v = .non ∧ R H2) L2.E0 := by
  have e1 := new_ins (C := cl K "Uncut") hx hdx
  refine ⟨x, dx, z, n, rfl, upd_same, hz, h0, fun H' fs xa hf => ⟨rfl, k H' dx fs (fun b o hb => ?_) hf⟩⟩
  exact xa b o (ne_of_none hb hx) (e1 b o hb)
theorem rd_mk {C : Addr} {sp : Sp} (h : tq σ H fun vs H1 => ∀ x dx, H1 x = none → H1 dx = none → dx ≠ x → sp (.ref x :: (vs ++ [])) (upd (upd H1 dx (.own x)) x (.ins C dx [])) (fun v H2 => v = .non ∧ Q (.ref x) H2) L2.E0) : tMake C sp [] L2.E0 tq σ H Q := h
/-! ### written lists of lists -/
/-- new objects, each as told -/
inductive Objs (H1 H2 : Hp) : List V → List HO → Prop where
  | nil : Objs H1 H2 [] []
  | cons {q : Addr} {o : HO} {gs : List V} {os : List HO} : H1 q = none → H2 q = some o → Objs H1 H2 gs os → Objs H1 H2 (.ref q :: gs) (o :: os)
theorem Objs.ex {H1 H2 H3 : Hp} {gs : List V} {os : List HO} (h : Objs H1 H2 gs os) (e : Ex H2 H3) : Objs H1 H3 gs os := by
  induction h with
  | nil => exact .nil
  | cons a b _ ih => exact .cons a (e _ _ b) ih
theorem Objs.back {H0 H1 H2 : Hp} {gs : List V} {os : List HO} (h : Objs H1 H2 gs os) (e : Ex H0 H1) : Objs H0 H2 gs os := by
  induction h with
  | nil => exact .nil
  | cons a b _ ih => exact .cons (fresh_back e a) b ih
theorem Objs.len {H1 H2 : Hp} {gs : List V} {os : List HO} (h : Objs H1 H2 gs os) : gs.length = os.length := by
  induction h with
  | nil => rfl
  | cons _ _ _ ih => exact congrArg Nat.succ ih
theorem Objs.get {H1 H2 : Hp} {gs : List V} {os : List HO} (h : Objs H1 H2 gs os) {v : V} (hv : v ∈ gs) : ∃ q, v = .ref q ∧ H1 q = none ∧ ∃ o ∈ os, H2 q = some o := by
  induction h with
  | nil => cases hv
  | cons a b _ ih =>
    rcases List.mem_cons.mp hv with rfl | hv
    · exact ⟨_, rfl, a, _, List.mem_cons_self, b⟩
    · obtain ⟨q, e, n, o, ho, hq⟩ := ih hv
      exact ⟨q, e, n, o, List.mem_cons_of_mem _ ho, hq⟩
def EvOs (tq : TA) (σ : L2.St) (os : List HO) : Prop := ∀ H1, ∀ Q : List V → Hp → Prop, (∀ gs H2, Ex H1 H2 → Objs H1 H2 gs os → Q gs H2) → tq σ H1 Q
theorem eo_nil : EvOs tNil σ [] := fun H1 Q q => q [] H1 (Ex.refl H1) .nil
theorem eo_L {xs : List V} {os : List HO} (h : ∀ H, EvL te σ H xs) (hr : EvOs tr σ os) : EvOs (tCons te tr) σ (.lst xs :: os) := fun H1 Q q => h H1 H1 (Ex.refl H1) _ fun p H2 hp e2 h2 => hr H2 _ fun gs H3 e3 h3 => q _ H3 (e2.trans e3) (.cons hp (e3 _ _ h2) (h3.back e2))
theorem eo_U {xs : List V} {os : List HO} (h : ∀ H, EvU te σ H xs) (hr : EvOs tr σ os) : EvOs (tCons te tr) σ (.tup xs :: os) := fun H1 Q q => h H1 H1 (Ex.refl H1) _ fun p H2 hp e2 h2 => hr H2 _ fun gs H3 e3 h3 => q _ H3 (e2.trans e3) (.cons hp (e3 _ _ h2) (h3.back e2))
theorem rd_objs {os : List HO} (h : EvOs tq σ os) (hl : os.length ≤ 1000) (k : ∀ p gs H1, H p = none → Ex H H1 → H1 p = some (.lst gs) → Objs H H1 gs os → Q (.ref p) H1) : tLst tq σ H Q :=
  h H _ fun gs H1 e1 h1 => ⟨sz_of (by rw [h1.len]; omega), fun p hp => k p gs _ (fresh_back e1 hp) (e1.trans (Ex.new hp)) upd_same (h1.ex (Ex.new hp))⟩
/-! ### draws of one of a list -/
theorem dr_one {a p : Addr} {xs : List V} {n : Nat} (h0 : Ev ta σ H (.ref a)) (h1 : Ev tb σ H (.ref p)) (hp : H p = some (.lst xs)) (hpa : p ≠ a) (hne : xs ≠ []) (hl : xs.length ≤ 1000) (hw : WellAt H a n) (hn : n ≤ 1000000) (k : ∀ v H', v ∈ xs → Exa a H H' → WellAt H' a (n + 1) → Q v H') :
    tCall spOne [] L2.E0 (tCons ta (tCons tb tNil)) σ H Q :=
  ea_cons h0 (ea_cons h1 ea_nil) H (Ex.refl H) _ fun H1 e1 => ⟨a, p, xs, n, rfl, e1 _ _ hp, hpa, hne, hl, hw.ex e1, hn, fun v H' hv xa hw' => k v H' hv ((Exa.of e1).trans xa) hw'⟩
/-- of a new list -/
theorem dr_oneL {a : Addr} {xs : List V} {n : Nat} (h0 : Ev ta σ H (.ref a)) (h1 : EvL tb σ H xs) (hne : xs ≠ []) (hl : xs.length ≤ 1000) (hw : WellAt H a n) (hn : n ≤ 1000000) (k : ∀ v H', v ∈ xs → Exa a H H' → WellAt H' a (n + 1) → Q v H') :
    tCall spOne [] L2.E0 (tCons ta (tCons tb tNil)) σ H Q :=
  rd_call (rd_cons (rd_ev h0 fun H1 e1 => rd_cons (h1 H1 e1 _ fun p H2 hp e2 h2 => rd_nil ⟨a, p, xs, n, rfl, h2, well_ne (hw.ex e1) hp, hne, hl, (hw.ex e1).ex e2, hn, fun v H' hv xa hw' => k v H' hv ((Exa.of (e1.trans e2)).trans xa) hw'⟩)))
/-- of a new list of new objects -/
theorem dr_oneO {a : Addr} {os : List HO} {n : Nat} (h0 : Ev ta σ H (.ref a)) (h1 : EvOs tq σ os) (hne : os ≠ []) (hl : os.length ≤ 1000) (hw : WellAt H a n) (hn : n ≤ 1000000) (k : ∀ q o H', o ∈ os → Exa a H H' → WellAt H' a (n + 1) → H' q = some o → q ≠ a → Q (.ref q) H') :
    tCall spOne [] L2.E0 (tCons ta (tCons (tLst tq) tNil)) σ H Q :=
  rd_call (rd_cons (rd_ev h0 fun H1 e1 => rd_cons (rd_objs h1 hl fun p gs H2 hp e2 h2 ho => rd_nil ⟨a, p, gs, n, rfl, h2, well_ne (hw.ex e1) hp, (fun z => by
      subst z
      have := ho.len
      cases os with
      | nil => exact hne rfl
      | cons => cases this), by rw [ho.len]; exact hl, (hw.ex e1).ex e2, hn, fun v H' hv xa hw' => by
    obtain ⟨q, rfl, hq, o, hm, hqo⟩ := ho.get hv
    have nqa := well_ne (hw.ex e1) hq
    exact k q o H' hm ((Exa.of (e1.trans e2)).trans xa) hw' (xa _ _ nqa hqo) nqa⟩)))
end
/-! ### text * int -/
theorem fold_arr : ∀ (l : List (Array Nat)) (acc : Array Nat), (l.foldl (· ++ ·) acc).toList = acc.toList ++ (l.map (·.toList)).flatten
  | [], acc => by simp
  | a :: r, acc => by
    rw [List.foldl_cons, fold_arr r (acc ++ a)]
    simp
theorem mul_S (l : List Nat) (k : Nat) : Txt.mul (S l) (k : Int) = S (List.replicate k l).flatten := by
  unfold Txt.mul
  by_cases h1 : (k : Int) < 1
  · rw [if_pos h1]
    have : k = 0 := by omega
    subst this
    rfl
  · rw [if_neg h1]
    by_cases h2 : ((k : Int) == 1 || (S l).length == 0) = true
    · rw [if_pos h2]
      rcases Bool.or_eq_true_iff.mp h2 with h | h
      · have : k = 1 := by have := eq_of_beq h; omega
        subst this
        simp [S]
      · have : l = [] := by
          have := eq_of_beq h
          rw [SX.S_len] at this
          exact List.eq_nil_of_length_eq_zero this
        subst this
        have e : (List.replicate k ([] : List Nat)).flatten = [] := by simp
        rw [e]
    · rw [if_neg h2]
      have e : ((List.replicate (k : Int).toNat (S l).cps).foldl (· ++ ·) (#[] : Array Nat)) = ((List.replicate k l).flatten).toArray := by
        refine Array.toList_inj.mp ?_
        rw [fold_arr]
        simp [S]
      rw [e]
abbrev rRepS : R2 := fun x y H Q => ∃ (l : List Nat) (k : Nat), x = .str (S l) ∧ y = .int (k : Int) ∧ k ≤ 1000 ∧ l.length ≤ 100 ∧ Q (.str (S (List.replicate k l).flatten)) H
theorem op_repS {X : Cx} : OpR X (binaryOp .Mult) rRepS := by
  intro pins s σ H x y v u Q I rx ry h
  obtain ⟨l, k, rfl, rfl, hk, hl, q⟩ := h
  obtain ⟨t, rfl⟩ := rx
  obtain ⟨t2, rfl⟩ := ry
  have hm : l.length * k ≤ 100 * 1000 := Nat.mul_le_mul hl hk
  refine SB.mul (x := S l) (n := (k : Int)) ⟨?_, ?_, ?_⟩ fun t' tk => ?_
  · rw [decide_eq_false (by omega), decide_eq_false (by omega)]; rfl
  · intro h1 _ h3
    rw [SX.S_len] at h3
    have hk0 : (0 : Int) < (k : Int) := by omega
    have : (100 : Int) ≤ (2 ^ 63 - 1) / (k : Int) := Int.le_ediv_of_mul_le hk0 (by omega)
    omega
  · intro _ _
    rw [SX.S_len, Int.toNat_natCast]
    have hz : l.length * k ≤ sizeLine := sz_of (by omega)
    exact decide_eq_false (by omega)
  · rw [mul_S]
    exact ⟨.str _, H, I.tok _, ⟨_, rfl⟩, q⟩
end N8

set_option maxHeartbeats 4000000
namespace N8
open PySem PySem.Spec PyProof.Rows L2 Evl
open SX (S)
abbrev sLawMethod : Stmt := topS 104
theorem scLawMethod : FnScope ["well", "is_wide", "names_so", "name", "descriptor", "many", "good", "flags", "high", "code"] ["well", "is_wide"] (L2.defScope sLawMethod) := ⟨rfl, rfl, rfl, by decide +kernel, rfl, by decide +kernel, by decide +kernel⟩

def toL (z : Str) : List Nat := z.cps.toList
theorem S_toL (z : Str) : S (toL z) = z := SX.S_tl z
/-! ### what is drawn of a method -/
def nameS : List Str := ["a", "b", "go", "<init>", "<clinit>"]
def dJ : List Nat := 40 :: (List.replicate 100 74 ++ [41, 86])
def descs : List (List Nat × Int) := [(toL "()V", 0), (toL "(I)I", 1), (toL "(JJ)V", 4), (dJ, 200), (toL "([JLIJ;)V", 2), (toL "([[LA;J)V", 3)]
def descs7 : List (List Nat) := toL "(I)V" :: descs.map (·.1)
theorem names_ok : ∀ z ∈ nameS, isMName (toL z) = true ∧ (toL z).length ≤ 20000 := by decide +kernel
theorem descs_ok : ∀ d ∈ descs7, d.length ≤ 10000 ∧ (partsL d).isSome = true := by decide +kernel
def LmOk (K : PySem.W.Frag) (H : Hp) (l : LM) : Prop := CodeAt K H l.m.x l.code l.high ∧ (∃ z ∈ nameS, l.m.name = toL z) ∧ l.m.desc ∈ descs7 ∧ Flags l.m.ws ∧ 0 ≤ l.high
theorem LmOk.meth {K : PySem.W.Frag} {H : Hp} {l : LM} (h : LmOk K H l) : MethOk l.m := by
  obtain ⟨_, ⟨z, hz, e⟩, hd, hf, _⟩ := h
  have n := names_ok z hz
  have d := descs_ok _ hd
  exact ⟨by rw [e]; exact n.1, by rw [e]; exact n.2, Option.isSome_iff_exists.mp d.2, d.1, hf⟩
theorem well_nl {H : Hp} {a p : Addr} {n : Nat} {xs : List V} (hw : WellAt H a n) (h : H p = some (.lst xs)) (hx : ∀ i j : Int, xs ≠ [.int i, .int j]) : p ≠ a := fun e => by
  obtain ⟨x, c, h1, _⟩ := hw
  rw [e, h1] at h
  exact hx x c (HO.lst.inj (Option.some.inj h)).symm
theorem words_ne (ws : List Str) (i j : Int) : ws.map V.str ≠ [.int i, .int j] := fun e => by
  cases ws with
  | nil => cases e
  | cons w r => injection e with e1 _; cases e1
theorem well_nt {H : Hp} {a p : Addr} {n : Nat} {o : HO} (hw : WellAt H a n) (h : H p = some o) (ho : ∀ xs, o ≠ .lst xs) : p ≠ a := fun e => by
  obtain ⟨x, c, h1, _⟩ := hw
  rw [e, h1] at h
  exact ho _ (Option.some.inj h).symm
theorem LMAt.exa {H H' : Hp} {a : Addr} {n : Nat} {v : V} {l : LM} (hw : WellAt H a n) (e : Exa a H H') (h : LMAt H v l) : LMAt H' v l := by
  obtain ⟨t, fl, h1, h2, h3⟩ := h
  exact ⟨t, fl, h1, e _ _ (well_nt hw h2 fun _ z => by cases z) h2, e _ _ (well_nl hw h3 (words_ne _)) h3⟩
theorem CodeAt.exa {K : PySem.W.Frag} {H H' : Hp} {a : Addr} {n : Nat} {x : V} {c : Bool} {hi : Int} (hw : WellAt H a n) (e : Exa a H H') (h : CodeAt K H x c hi) : CodeAt K H' x c hi := by
  rcases h with h | ⟨b, dx, fs, h1, h2, h3⟩ | ⟨b, dx, fs, h1, h2, h3⟩
  · exact .inl h
  · exact .inr (.inl ⟨b, dx, fs, h1, e _ _ (well_nt hw h2 fun _ z => by cases z) h2, h3⟩)
  · exact .inr (.inr ⟨b, dx, fs, h1, e _ _ (well_nt hw h2 fun _ z => by cases z) h2, h3⟩)
theorem LmOk.exa {K : PySem.W.Frag} {H H' : Hp} {a : Addr} {n : Nat} {l : LM} (hw : WellAt H a n) (e : Exa a H H') (h : LmOk K H l) : LmOk K H' l := ⟨h.1.exa hw e, h.2⟩
def goodW (ws : List Str) : Prop := (∀ y ∈ ws, y ∈ flags9) ∧ ws.Nodup ∧ ws.length ≤ 10
instance (ws : List Str) : Decidable (goodW ws) := by unfold goodW; infer_instance
theorem goods_of {H1 H2 : Hp} {a : Addr} {n : Nat} {gs : List V} {os : List HO} (h : Objs H1 H2 gs os) (hw : WellAt H1 a n) (wss : List (List Str)) (e : os = wss.map fun ws => .lst (ws.map V.str)) (hg : ∀ ws ∈ wss, goodW ws) : Goods H2 a gs := fun x hx => by
  obtain ⟨q, rfl, hq, o, ho, hqo⟩ := h.get hx
  rw [e] at ho
  obtain ⟨ws, hws, rfl⟩ := List.mem_map.mp ho
  exact ⟨q, ws, rfl, well_ne hw hq, hqo, (hg ws hws).1, (hg ws hws).2.1, (hg ws hws).2.2⟩
theorem Goods.app {H : Hp} {a : Addr} {xs ys : List V} (h1 : Goods H a xs) (h2 : Goods H a ys) : Goods H a (xs ++ ys) := fun x hx => (List.mem_append.mp hx).elim (h1 x) (h2 x)
theorem Goods.ex {H H' : Hp} {a : Addr} {xs : List V} (h : Goods H a xs) (e : Ex H H') : Goods H' a xs := h.exa (Exa.of e)
/-- new: with flags that were not there before -/
def LMNew (H0 H : Hp) (v : V) (l : LM) : Prop := ∃ t fl, v = .ref t ∧ H0 fl = none ∧ H t = some (.tup [.str (S l.m.name), .str (S l.m.desc), .ref fl, l.m.x, .int l.high]) ∧ H fl = some (.lst (l.m.ws.map V.str))
def MemNew (H0 H : Hp) (v : V) (m : Mem) : Prop := ∃ t fl, v = .ref t ∧ H0 fl = none ∧ H t = some (.tup [.str (S m.name), .str (S m.desc), .ref fl, m.x]) ∧ H fl = some (.lst (m.ws.map V.str))
def spLMeth (K : PySem.W.Frag) : Sp := fun vs H Q _ => ∃ (a : Addr) (wide : Bool) (n : Nat), vs = [.ref a, .bl wide] ∧ WellAt H a n ∧ n ≤ 700000 ∧ ∀ (q : Addr) (l : LM) (H' : Hp), Exa a H H' → WellAt H' a (n + 60) → q ≠ a → LMNew H H' (.ref q) l → LmOk K H' l → Q (.ref q) H'
/-- between the statements, as far as good -/
def MSt (H0 : Hp) (a : Addr) (wide : Bool) (n : Nat) (nm : Str) (σ' : L2.St) (H' : Hp) : Prop := ∃ (d : List Nat) (m : Int) (g : Addr) (xs : List V) (v2 v7 v8 v9 : Option V), σ' = [some (.ref a), some (.bl wide), v2, some (.str nm), some (.str (S d)), some (.int m), some (.ref g), v7, v8, v9] ∧ Exa a H0 H' ∧ WellAt H' a n ∧
  H' g = some (.lst xs) ∧ g ≠ a ∧ xs ≠ [] ∧ xs.length ≤ 1000 ∧ Goods H' a xs ∧ d ∈ descs7 ∧ 0 ≤ m ∧ m ≤ 200
section
variable {K : PySem.W.Frag} {σ : L2.St} {H H' : Hp} {te ta tb tl : TE} {tq tr : TA} {t : TT} {r : R2} {v x : V} {D : Ends} {tz tu : TS} {Q : VK}
theorem q_mid (P : L2.St → Hp → Prop) (k : ∀ σ' H', P σ' H' → tz D σ' H') (h : (∀ σ' H', P σ' H' → tz D σ' H') → tSeq tu tz D σ H) : tSeq tu tz D σ H := h k
abbrev rAddS : R2 := fun x y H Q => ∃ i j, x = .str i ∧ y = .str j ∧ i.length + j.length ≤ sizeLine ∧ Q (.str (i ++ j)) H
theorem ev_bigJ : Ev (tOp rAddS (tOp rAddS (tC (.str "(")) (tOp rRepS (tC (.str "J")) (tC (.int 100)))) (tC (.str ")V"))) σ H (.str (S dJ)) := fun H1 e Q q => by
  refine ⟨[74], 100, by decide +kernel, rfl, by decide, by decide, _, _, rfl, rfl, by decide +kernel, _, _, rfl, rfl, by decide +kernel, ?_⟩
  have e1 : (("(" : Str) ++ S (List.replicate 100 [74]).flatten) ++ (")V" : Str) = S dJ := by decide +kernel
  rw [e1]
  exact q H1 (Ex.refl H1)
/-- a draw is 0 -/
theorem dr_zero {a : Addr} {m : Int} {n : Nat} (ha : Ev ta σ H (.ref a)) (hm : Ev tb σ H (.int m)) (h0 : 0 < m) (h1 : m < 1000000) (hw : WellAt H a n) (hn : n ≤ 1000000) (k : ∀ b H', Exa a H H' → WellAt H' a (n + 1) → Q (.bl b) H') : tOp rEq (tCall spDraw [] L2.E0 (tCons ta (tCons tb tNil))) (tC (.int 0)) σ H Q :=
  rd_op (dr_draw ha hm h0 h1 hw hn fun d H' _ _ xa hw' => ⟨rfl, k _ H' xa hw'⟩)
theorem dr_pos {a : Addr} {m : Int} {n : Nat} (ha : Ev ta σ H (.ref a)) (hm : Ev tb σ H (.int m)) (h0 : 0 < m) (h1 : m < 1000000) (hw : WellAt H a n) (hn : n ≤ 1000000) (k : ∀ b H', Exa a H H' → WellAt H' a (n + 1) → Q (.bl b) H') : tOp (rI0 fun i j => .bl (decide (i > j))) (tCall spDraw [] L2.E0 (tCons ta (tCons tb tNil))) (tC (.int 0)) σ H Q :=
  rd_op (dr_draw ha hm h0 h1 hw hn fun d H' _ _ xa hw' => ⟨d, 0, rfl, rfl, k _ H' xa hw'⟩)
/-- not x or a draw is 0 -/
theorem or_zero {a : Addr} {m : Int} {n i : Nat} {wide : Bool} (hi : σ[i]? = some (some (.bl wide))) (ha : Ev ta σ H (.ref a)) (hm : Ev tb σ H (.int m)) (h0 : 0 < m) (h1 : m < 1000000) (hw : WellAt H a n) (hn : n ≤ 1000000) (k : ∀ b H', Exa a H H' → WellAt H' a (n + 1) → Q (.bl b) H') :
    tOrV (tNotV (tVar i)) (tOp rEq (tCall spDraw [] L2.E0 (tCons ta (tCons tb tNil))) (tC (.int 0))) σ H Q := by
  refine ⟨.bl wide, hi, wide, rfl, !wide, rfl, ?_⟩
  cases wide with
  | false => exact k true H (Exa.refl a H) (hw.le (Nat.le_succ n))
  | true => exact dr_zero ha hm h0 h1 hw hn k
theorem rd_ifT (h : te σ H fun x H1 => ∃ b, x = .bl b ∧ if b = true then ta σ H1 Q else tb σ H1 Q) : tIf (tTest te) ta tb σ H Q := h
/-- good = a written list of lists -/
theorem good_set {a : Addr} {n : Nat} {os : List HO} {i : Nat} (h : EvOs tq σ os) (wss : List (List Str)) (e : os = wss.map fun ws => .lst (ws.map V.str)) (hg : ∀ ws ∈ wss, goodW ws) (h0 : wss ≠ []) (hl : wss.length ≤ 100) (hw : WellAt H a n)
    (k : ∀ g xs H', Ex H H' → H' g = some (.lst xs) → g ≠ a → xs ≠ [] → xs.length ≤ 100 → Goods H' a xs → tz D (σ.set i (some (.ref g))) H') : tSeq (tAsg (tLst tq) (gName i)) tz D σ H := by
  have lo : os.length = wss.length := by rw [e, List.length_map]
  refine q_asgAny (rd_objs h (by omega) fun p gs H1 hp x1 h1 o1 => k p gs H1 x1 h1 (well_ne hw hp) (fun z => ?_) (by rw [o1.len]; omega) (goods_of o1 hw wss e hg))
  subst z
  have := o1.len
  cases wss with
  | nil => exact h0 rfl
  | cons => rw [lo] at this; cases this
theorem good_set1 {a : Addr} {n : Nat} {os : List HO} {i : Nat} (h : EvOs tq σ os) (wss : List (List Str)) (e : os = wss.map fun ws => .lst (ws.map V.str)) (hg : ∀ ws ∈ wss, goodW ws) (h0 : wss ≠ []) (hl : wss.length ≤ 100) (hw : WellAt H a n)
    (k : ∀ g xs H', Ex H H' → H' g = some (.lst xs) → g ≠ a → xs ≠ [] → xs.length ≤ 100 → Goods H' a xs → D.nx (σ.set i (some (.ref g))) H') : tAsg (tLst tq) (gName i) D σ H := good_set (D := D) (tz := fun D => D.nx) h wss e hg h0 hl hw k
theorem and_draw {ga gb : Bool} {e1 e2 : TE} {a : Addr} {m : Int} {n : Nat} {R : Bool → Hp → Prop} (he1 : Ev e1 σ H (.bl ga)) (he2 : Ev e2 σ H (.bl gb)) (ha : Ev ta σ H (.ref a)) (hm : Ev tb σ H (.int m)) (h0 : 0 < m) (h1 : m < 1000000) (hw : WellAt H a n) (hn : n ≤ 1000000) (k : ∀ b H', Exa a H H' → WellAt H' a (n + 1) → R b H') :
    tAnd (tTest e1) (tAnd (tTest e2) (tTest (tOp (rI0 fun i j => .bl (decide (i > j))) (tCall spDraw [] L2.E0 (tCons ta (tCons tb tNil))) (tC (.int 0))))) σ H R := by
  refine he1 H (Ex.refl H) _ fun H1 x1 => ⟨ga, rfl, ?_⟩
  cases ga with
  | false => exact k false H1 (Exa.of x1) ((hw.ex x1).le (Nat.le_succ n))
  | true =>
    refine he2 H1 x1 _ fun H2 x2 => ⟨gb, rfl, ?_⟩
    cases gb with
    | false => exact k false H2 (Exa.of (x1.trans x2)) ((hw.ex (x1.trans x2)).le (Nat.le_succ n))
    | true => exact dr_pos (ha.mono (x1.trans x2)) (hm.mono (x1.trans x2)) h0 h1 (hw.ex (x1.trans x2)) hn fun b H3 xa w3 => ⟨b, rfl, k b H3 ((Exa.of (x1.trans x2)).trans xa) w3⟩
/-- between the statements, from the code on -/
def MSc (K : PySem.W.Frag) (H0 : Hp) (a : Addr) (wide : Bool) (n : Nat) (nm : Str) (σ' : L2.St) (H' : Hp) : Prop := ∃ (d : List Nat) (v2 v5 v6 : Option V) (fl : Addr) (rs : List Str) (hi : Int) (x : V) (c : Bool), σ' = [some (.ref a), some (.bl wide), v2, some (.str nm), some (.str (S d)), v5, v6, some (.ref fl), some (.int hi), some x] ∧ Exa a H0 H' ∧ WellAt H' a n ∧
  H' fl = some (.lst (rs.map V.str)) ∧ fl ≠ a ∧ (Flags rs ∧ H0 fl = none) ∧ CodeAt K H' x c (if hi > 0 then hi else 0) ∧ d ∈ descs7
theorem rd_or {c : Bool} (h : ta σ H fun x H1 => ∃ c, x = .bl c ∧ if c = true then Q (.bl true) H1 else tb σ H1 Q) : tOrV ta tb σ H Q := h
/-- a new object is seen by an Exa -/
theorem exa_new {a : Addr} {p : Addr} {o : HO} (h : H p = none) : Exa a H (upd H p o) := Exa.of (Ex.new h)
end
section
variable {P : Program} {w : World} {K : PySem.W.Frag} {mg : Str → Option Value} {base : Heap}
theorem ok_lawMethod {f : Addr} {fd : FuncData} (F : FnP K "_law_method" sLawMethod f fd) (B : Bt mg) (m_Code : MkCo P w K mg base) (m_Uncut : MkUn P w K mg base) (c_law_draw : Cl P w K mg base L2.CX0 1 "_law_draw" ["well", "many"] spDraw) (c_law_one : Cl P w K mg base L2.CX0 2 "_law_one" ["well", "some"] spOne)
    (c_law_flags : Cl P w K mg base L2.CX0 3 "_law_flags" ["well", "good"] spLFlags) : FnOk P w K mg base L2.CX0 6 f fd ["well", "is_wide"] (spLMeth K) := by
  refine F.ok scLawMethod (fun vs H Q E h => ?_) (fun cdv A outer s H vs Q E hr h => ?_)
  · obtain ⟨a, wide, n, rfl, _⟩ := h
    rfl
  · obtain ⟨a, wide, n, rfl, hw, hn, q⟩ := h
    refine ⟨_, PSs.nox (pss_cons (ps_set (i := 2) scLawMethod.nd rfl (.inl rfl) (pe_op op_cat (pe_lst (pa_cons pe_str (pa_cons pe_str (pa_cons pe_str (pa_cons pe_str pa_nil))))) (pe_op op_rep (pe_lst (pa_cons pe_str (pa_cons pe_str pa_nil))) (pe_callTy call_int1 (by rfl) B.int (by decide +kernel) (pa_cons (pe_or (pe_not (pv 1)) (pe_one (pe_cmpR op_eq (pe_cl c_law_draw hr (by decide) (by rfl) (pa_cons (pv 0) (pa_cons pe_int pa_nil))) pe_int (nomark _)))) pa_nil)))))
      (pss_cons (ps_set (i := 3) scLawMethod.nd rfl (.inl rfl) (pe_cl c_law_one hr (by decide) (by rfl) (pa_cons (pv 0) (pa_cons (pv 2) pa_nil))))
      (pss_cons (ps_asg (pe_cl c_law_one hr (by decide) (by rfl) (pa_cons (pv 0) (pa_cons (pe_lst (pa_cons (pe_tup (pa_cons pe_str (pa_cons pe_int pa_nil))) (pa_cons (pe_tup (pa_cons pe_str (pa_cons pe_int pa_nil))) (pa_cons (pe_tup (pa_cons pe_str (pa_cons pe_int pa_nil))) (pa_cons (pe_tup (pa_cons (pe_op op_add_str (pe_op op_add_str pe_str (pe_op op_repS pe_str pe_int)) pe_str) (pa_cons pe_int pa_nil))) (pa_cons (pe_tup (pa_cons pe_str (pa_cons pe_int pa_nil))) (pa_cons (pe_tup (pa_cons pe_str (pa_cons pe_int pa_nil))) pa_nil))))))) pa_nil))) (pg_tup rfl (pgs_cons (pg_name (i := 4) scLawMethod.nd rfl (.inl rfl)) (pgs_cons (pg_name (i := 5) scLawMethod.nd rfl (.inl rfl)) pgs_nil))))
      (pss_cons (ps_set (i := 6) scLawMethod.nd rfl (.inl rfl) (pe_lst (pa_cons (pe_lst (pa_cons pe_str pa_nil)) (pa_cons (pe_lst pa_nil) (pa_cons (pe_lst (pa_cons pe_str (pa_cons pe_str pa_nil))) (pa_cons (pe_lst (pa_cons pe_str (pa_cons pe_str pa_nil))) (pa_cons (pe_lst (pa_cons pe_str pa_nil)) (pa_cons (pe_lst (pa_cons pe_str (pa_cons pe_str pa_nil))) pa_nil))))))))
      (pss_cons (ps_set (i := 6) scLawMethod.nd rfl (.inl rfl) (pe_op op_cat (pv 6) (pe_lst (pa_cons (pe_lst (pa_cons pe_str (pa_cons pe_str pa_nil))) (pa_cons (pe_lst (pa_cons pe_str (pa_cons pe_str (pa_cons pe_str (pa_cons pe_str pa_nil))))) pa_nil)))))
      (pss_cons (ps_if (pt_val (pv 1)) (pss_one (ps_set (i := 6) scLawMethod.nd rfl (.inl rfl) (pe_lst (pa_cons (pe_lst (pa_cons pe_str pa_nil)) (pa_cons (pe_lst (pa_cons pe_str (pa_cons pe_str pa_nil))) (pa_cons (pe_lst (pa_cons pe_str pa_nil)) (pa_cons (pe_lst (pa_cons pe_str (pa_cons pe_str pa_nil))) (pa_cons (pe_lst (pa_cons pe_str (pa_cons pe_str pa_nil))) pa_nil)))))))) pss_nil)
      (pss_cons (ps_if (pt_cmpR op_eq (pv 3) pe_str (nomark _)) (pss_one (ps_set (i := 6) scLawMethod.nd rfl (.inl rfl) (pe_lst (pa_cons (pe_lst (pa_cons pe_str pa_nil)) (pa_cons (pe_lst pa_nil) (pa_cons (pe_lst (pa_cons pe_str pa_nil)) (pa_cons (pe_lst (pa_cons pe_str pa_nil)) pa_nil))))))) pss_nil)
      (pss_cons (ps_if (pt_cmpR op_eq (pv 3) pe_str (nomark _)) (pss_cons (ps_set (i := 6) scLawMethod.nd rfl (.inl rfl) (pe_lst (pa_cons (pe_lst (pa_cons pe_str pa_nil)) pa_nil)))
      (pss_one (ps_set (i := 4) scLawMethod.nd rfl (.inl rfl) (pe_ifExp (pt_cmpR op_eq (pe_cl c_law_draw hr (by decide) (by rfl) (pa_cons (pv 0) (pa_cons pe_int pa_nil))) pe_int (nomark _)) (pv 4) pe_str)))) pss_nil)
      (pss_cons (ps_if (PW.pt (pw_and (pt_cmpR op_eq (pv 3) pe_str (nomark _)) (pw_and (pt_cmpR op_eq (pv 4) pe_str (nomark _)) (pw_and1 (pt_cmpR op_gt (pe_cl c_law_draw hr (by decide) (by rfl) (pa_cons (pv 0) (pa_cons pe_int pa_nil))) pe_int (nomark _)))))) (pss_one (ps_set (i := 4) scLawMethod.nd rfl (.inl rfl) pe_str)) pss_nil)
      (pss_cons (ps_par (i := 7) (j := 8) rfl scLawMethod.nd rfl rfl (by decide) rfl rfl (pa_cons (pe_cl c_law_flags hr (by decide) (by rfl) (pa_cons (pv 0) (pa_cons (pv 6) pa_nil))) (pa_cons (pe_op op_add (pv 5) (pe_cl c_law_one hr (by decide) (by rfl) (pa_cons (pv 0) (pa_cons (pe_lst (pa_cons pe_int (pa_cons pe_int (pa_cons pe_int (pa_cons pe_int (pa_cons pe_int (pa_cons pe_int (pa_cons (pe_un un_neg pe_int) pa_nil)))))))) pa_nil)))) pa_nil)) rfl)
      (pss_cons (ps_set (i := 9) scLawMethod.nd rfl (.inl rfl) (MkCo.pe m_Code hr (by decide) (by rfl) (pa_cons pe_int (pa_cons (pe_callB (call_max2 rfl) (by rfl) B.max (by decide +kernel) (pa_cons pe_int (pa_cons (pv 8) pa_nil))) (pa_cons (pe_lst (pa_cons (pe_tup (pa_cons pe_str pa_nil)) pa_nil)) (pa_cons (pe_lst pa_nil) (pa_cons (pe_lst pa_nil) pa_nil)))))))
      (pss_cons (ps_set (i := 9) scLawMethod.nd rfl (.inl rfl) (pe_cl c_law_one hr (by decide) (by rfl) (pa_cons (pv 0) (pa_cons (pe_lst (pa_cons (pv 9) (pa_cons (pv 9) (pa_cons (pv 9) (pa_cons (MkUn.pe m_Uncut hr (by decide) (by rfl) (pa_cons pe_str (pa_cons pe_int pa_nil))) pa_nil))))) pa_nil))))
      (pss_cons (ps_if (PW.pt (pw_or (pt_cmpR op_in_seq pe_str (pv 7) rfl) (pw_or1 (pt_cmpR op_in_seq pe_str (pv 7) rfl)))) (pss_one (ps_set (i := 9) scLawMethod.nd rfl (.inl rfl) pe_non)) pss_nil)
      (pss_cons (ps_set (i := 9) scLawMethod.nd rfl (.inl rfl) (pe_ifExp (pt_cmpR op_gt (pe_cl c_law_draw hr (by decide) (by rfl) (pa_cons (pv 0) (pa_cons pe_int pa_nil))) pe_int (nomark _)) (pv 9) (pe_cl c_law_one hr (by decide) (by rfl) (pa_cons (pv 0) (pa_cons (pe_lst (pa_cons pe_non (pa_cons (MkUn.pe m_Uncut hr (by decide) (by rfl) (pa_cons pe_str (pa_cons pe_int pa_nil))) pa_nil))) pa_nil)))))
      (pss_one (ps_ret (pe_tup (pa_cons (pv 3) (pa_cons (pv 4) (pa_cons (pv 7) (pa_cons (pv 9) (pa_cons (pe_callB (call_max2 rfl) (by rfl) B.max (by decide +kernel) (pa_cons pe_int (pa_cons (pv 8) pa_nil))) pa_nil)))))))))))))))))))))), ?_⟩
    refine q_asgAny (rd_op ((el_lst (ea_cons ev_c (ea_cons ev_c (ea_cons ev_c (ea_cons ev_c ea_nil)))) (Nat.le_of_ble_eq_true rfl)) H (Ex.refl H) _ fun p1 H1 hp1 x1 h1 => rd_op ((el_lst (ea_cons ev_c (ea_cons ev_c ea_nil)) (Nat.le_of_ble_eq_true rfl)) H1 (Ex.refl H1) _ fun p2 H2 hp2 x2 h2 => rd_cb (rd_cons ?_))))
    have A2 : Exa a H H2 := Exa.of (x1.trans x2)
    have w2 := hw.ex (x1.trans x2)
    have g1 := x2 _ _ h1
    have n1a : p1 ≠ a := well_ne hw hp1
    have n2a : p2 ≠ a := well_ne (hw.ex x1) hp2
    refine or_zero rfl (ev_var rfl) ev_c (by decide) (by decide) w2 (by omega) fun b H3 xa3 w3 => rd_nil (.inr ⟨b, rfl, p2, _, _, rfl, rfl, xa3 _ _ n2a h2, by cases b <;> decide, by cases b <;> decide, by cases b <;> exact sz_of (Nat.le_of_ble_eq_true rfl), fun p3 hp3 => ⟨p1, p3, _, _, rfl, rfl, (Ex.new hp3) _ _ (xa3 _ _ n1a g1), upd_same, by cases b <;> exact sz_of (Nat.le_of_ble_eq_true rfl), fun p4 hp4 => ?_⟩⟩)
    have A4 : Exa a H (upd (upd H3 p3 (.lst (List.replicate (if b = true then (1 : Int) else 0).toNat [V.str "<init>", V.str "<clinit>"]).flatten)) p4 (.lst ([V.str "a", V.str "b", V.str "go", V.str "go"] ++ (List.replicate (if b = true then (1 : Int) else 0).toNat [V.str "<init>", V.str "<clinit>"]).flatten))) := (A2.trans xa3).trans (Exa.of ((Ex.new hp3).trans (Ex.new hp4)))
    have w4 := w3.ex ((Ex.new (o := .lst (List.replicate (if b = true then (1 : Int) else 0).toNat [V.str "<init>", V.str "<clinit>"]).flatten) hp3).trans (Ex.new (o := .lst ([V.str "a", V.str "b", V.str "go", V.str "go"] ++ (List.replicate (if b = true then (1 : Int) else 0).toNat [V.str "<init>", V.str "<clinit>"]).flatten)) hp4))
    have n4a : p4 ≠ a := well_ne (w3.ex (Ex.new (o := .lst (List.replicate (if b = true then (1 : Int) else 0).toNat [V.str "<init>", V.str "<clinit>"]).flatten) hp3)) hp4
    have hN : ∀ v ∈ ([V.str "a", V.str "b", V.str "go", V.str "go"] ++ (List.replicate (if b = true then (1 : Int) else 0).toNat [V.str "<init>", V.str "<clinit>"]).flatten), ∃ z ∈ nameS, v = .str z := by
      intro v hv
      have hv2 : v ∈ [V.str "a", V.str "b", V.str "go", V.str "go", V.str "<init>", V.str "<clinit>"] := by
        cases b with
        | true => exact hv
        | false => exact List.mem_append_left [V.str "<init>", V.str "<clinit>"] (show v ∈ [V.str "a", V.str "b", V.str "go", V.str "go"] from hv)
      simp only [List.mem_cons, List.not_mem_nil, or_false] at hv2
      rcases hv2 with rfl | rfl | rfl | rfl | rfl | rfl <;> exact ⟨_, by decide +kernel, rfl⟩
    have h4 := upd_same (H := upd H3 p3 (.lst (List.replicate (if b = true then (1 : Int) else 0).toNat [V.str "<init>", V.str "<clinit>"]).flatten)) (a := p4) (o := .lst ([V.str "a", V.str "b", V.str "go", V.str "go"] ++ (List.replicate (if b = true then (1 : Int) else 0).toNat [V.str "<init>", V.str "<clinit>"]).flatten))
    have l4 : ([V.str "a", V.str "b", V.str "go", V.str "go"] ++ (List.replicate (if b = true then (1 : Int) else 0).toNat [V.str "<init>", V.str "<clinit>"]).flatten).length ≤ 1000 := by cases b <;> decide
    generalize upd (upd H3 p3 (.lst (List.replicate (if b = true then (1 : Int) else 0).toNat [V.str "<init>", V.str "<clinit>"]).flatten)) p4 (.lst ([V.str "a", V.str "b", V.str "go", V.str "go"] ++ (List.replicate (if b = true then (1 : Int) else 0).toNat [V.str "<init>", V.str "<clinit>"]).flatten)) = H4 at A4 w4 h4 ⊢
    have ne4 : ([V.str "a", V.str "b", V.str "go", V.str "go"] ++ (List.replicate (if b = true then (1 : Int) else 0).toNat [V.str "<init>", V.str "<clinit>"]).flatten) ≠ [] := fun z => by cases z
    generalize ([V.str "a", V.str "b", V.str "go", V.str "go"] ++ (List.replicate (if b = true then (1 : Int) else 0).toNat [V.str "<init>", V.str "<clinit>"]).flatten) = xs4 at hN h4 l4 ne4
    refine q_asgAny (dr_one (ev_var rfl) (ev_var rfl) h4 n4a ne4 l4 w4 (by omega) fun v H5 hv xa5 w5 => ?_)
    obtain ⟨nm, hnm, rfl⟩ := hN v hv
    have A5 := A4.trans xa5
    refine rd_seq (show tCall _ _ _ _ _ _ _ from dr_oneO (ev_var rfl) (eo_U (fun H => (eu_tup (ea_cons ev_c (ea_cons ev_c ea_nil)) (Nat.le_of_ble_eq_true rfl))) (eo_U (fun H => (eu_tup (ea_cons ev_c (ea_cons ev_c ea_nil)) (Nat.le_of_ble_eq_true rfl))) (eo_U (fun H => (eu_tup (ea_cons ev_c (ea_cons ev_c ea_nil)) (Nat.le_of_ble_eq_true rfl))) (eo_U (fun H => eu_tup (ea_cons ev_bigJ (ea_cons ev_c ea_nil)) (Nat.le_of_ble_eq_true rfl)) (eo_U (fun H => (eu_tup (ea_cons ev_c (ea_cons ev_c ea_nil)) (Nat.le_of_ble_eq_true rfl))) (eo_U (fun H => (eu_tup (ea_cons ev_c (ea_cons ev_c ea_nil)) (Nat.le_of_ble_eq_true rfl))) eo_nil)))))) (by intro z; cases z) (by decide) w5 (by omega) fun qd o H6 ho xa6 w6 h6 hqa => ?_)
    obtain ⟨d, m, hdm, hm0, hm1, rfl⟩ : ∃ (d : List Nat) (m : Int), d ∈ descs7 ∧ 0 ≤ m ∧ m ≤ 200 ∧ o = .tup [.str (S d), .int m] := by
      simp only [List.mem_cons, List.not_mem_nil, or_false] at ho
      rcases ho with rfl | rfl | rfl | rfl | rfl | rfl
      · exact ⟨toL "()V", 0, by decide +kernel, by decide, by decide, by rw [S_toL]⟩
      · exact ⟨toL "(I)I", 1, by decide +kernel, by decide, by decide, by rw [S_toL]⟩
      · exact ⟨toL "(JJ)V", 4, by decide +kernel, by decide, by decide, by rw [S_toL]⟩
      · exact ⟨dJ, 200, by decide +kernel, by decide, by decide, rfl⟩
      · exact ⟨toL "([JLIJ;)V", 2, by decide +kernel, by decide, by decide, by rw [S_toL]⟩
      · exact ⟨toL "([[LA;J)V", 3, by decide +kernel, by decide, by decide, by rw [S_toL]⟩
    refine tup2 (st_of h6) ?_
    have A6 := A5.trans xa6
    dsimp only
    refine good_set (eo_L (fun H => (el_lst (ea_cons ev_c ea_nil) (Nat.le_of_ble_eq_true rfl))) (eo_L (fun H => (el_lst ea_nil (Nat.le_of_ble_eq_true rfl))) (eo_L (fun H => (el_lst (ea_cons ev_c (ea_cons ev_c ea_nil)) (Nat.le_of_ble_eq_true rfl))) (eo_L (fun H => (el_lst (ea_cons ev_c (ea_cons ev_c ea_nil)) (Nat.le_of_ble_eq_true rfl))) (eo_L (fun H => (el_lst (ea_cons ev_c ea_nil) (Nat.le_of_ble_eq_true rfl))) (eo_L (fun H => (el_lst (ea_cons ev_c (ea_cons ev_c ea_nil)) (Nat.le_of_ble_eq_true rfl))) eo_nil)))))) [["public"], [], ["private", "static"], ["final", "synchronized"], ["abstract"], ["public", "native"]] rfl (by decide +kernel) (by intro z; cases z) (by decide) w6 fun g gs H7 x7 h7 n7a ne7 l7 go7 => ?_
    have w7 := w6.ex x7
    refine q_asgAny (rd_op (rd_ev (ev_var rfl) fun H8 x8 => rd_objs (eo_L (fun H => (el_lst (ea_cons ev_c (ea_cons ev_c ea_nil)) (Nat.le_of_ble_eq_true rfl))) (eo_L (fun H => (el_lst (ea_cons ev_c (ea_cons ev_c (ea_cons ev_c (ea_cons ev_c ea_nil)))) (Nat.le_of_ble_eq_true rfl))) eo_nil)) (by decide) fun pg gs2 H9 hpg x9 h9 o9 => ⟨g, pg, gs, gs2, rfl, rfl, (x8.trans x9) _ _ h7, h9, sz_of (by have := o9.len; simp only [List.length_cons, List.length_nil] at this; omega), fun p10 hp10 => ?_⟩))
    have w8 := w7.ex x8
    have w9 := w8.ex x9
    have go9 := goods_of o9 w8 [["protected", "abstract"], ["public", "static", "final", "synchronized"]] rfl (by decide +kernel)
    have e9 : Ex H6 (upd H9 p10 (.lst (gs ++ gs2))) := ((x7.trans x8).trans x9).trans (Ex.new hp10)
    have l9 := o9.len
    have st0 : MSt H a wide (n + 3) nm [some (.ref a), some (.bl wide), some (.ref p4), some (.str nm), some (.str (S d)), some (.int m), some (.ref p10), none, none, none] (upd H9 p10 (.lst (gs ++ gs2))) := ⟨d, m, p10, gs ++ gs2, _, _, _, _, rfl, A6.trans (Exa.of e9), (w6.ex e9).le (by omega), upd_same, well_ne w9 hp10, (fun z => ne7 (List.append_eq_nil_iff.mp z).1), by rw [List.length_append]; simp only [List.length_cons, List.length_nil] at l9; omega, (((go7.ex (x8.trans x9)).app go9).ex (Ex.new hp10)), hdm, hm0, hm1⟩
    generalize upd H9 p10 (.lst (gs ++ gs2)) = H10 at st0 e9 ⊢
    clear go9 h9 o9 l9 go7 h7 w9 w8 w7
    -- if is_wide
    refine q_mid (MSt H a wide (n + 4) nm) (fun σ' H' hP => ?_) (fun k => ?_)
    rotate_left
    · obtain ⟨d, m, g, xs, v2, v7, v8, v9, e0, s1, s2, s3, s4, s5, s6, s7, s8, s9, s10⟩ := st0
      cases e0
      refine q_when (b := wide) (et_B (ev_var rfl)) (fun _ H1 y1 => ?_) (fun _ H1 y1 => k _ _ ⟨d, m, p10, xs, _, _, _, _, rfl, s1.trans (Exa.of y1), (s2.ex y1).le (by omega), y1 _ _ s3, s4, s5, s6, s7.ex y1, s8, s9, s10⟩)
      exact good_set1 (eo_L (fun H => (el_lst (ea_cons ev_c ea_nil) (Nat.le_of_ble_eq_true rfl))) (eo_L (fun H => (el_lst (ea_cons ev_c (ea_cons ev_c ea_nil)) (Nat.le_of_ble_eq_true rfl))) (eo_L (fun H => (el_lst (ea_cons ev_c ea_nil) (Nat.le_of_ble_eq_true rfl))) (eo_L (fun H => (el_lst (ea_cons ev_c (ea_cons ev_c ea_nil)) (Nat.le_of_ble_eq_true rfl))) (eo_L (fun H => (el_lst (ea_cons ev_c (ea_cons ev_c ea_nil)) (Nat.le_of_ble_eq_true rfl))) eo_nil))))) [["public"], ["public", "abstract"], ["private"], ["public", "static"], ["private", "static"]] rfl (by decide +kernel) (by intro z; cases z) (by decide) (s2.ex y1) fun g2 xs2 H2 y2 t1 t2 t3 t4 t5 => k _ _ ⟨d, m, g2, xs2, _, _, _, _, rfl, s1.trans (Exa.of (y1.trans y2)), ((s2.ex y1).ex y2).le (by omega), t1, t2, t3, (by omega), t5, s8, s9, s10⟩
    clear st0
    -- if name == '<init>'
    refine q_mid (MSt H a wide (n + 5) nm) (fun σ2 H2 hP2 => ?_) (fun k => ?_)
    rotate_left
    · obtain ⟨d, m, g, xs, v2, v7, v8, v9, rfl, s1, s2, s3, s4, s5, s6, s7, s8, s9, s10⟩ := hP
      refine q_when (b := decide (nm = "<init>")) (et_test (ev_eqSV (ev_var rfl))) (fun _ H1 y1 => ?_) (fun _ H1 y1 => k _ _ ⟨d, m, g, xs, _, _, _, _, rfl, s1.trans (Exa.of y1), (s2.ex y1).le (by omega), y1 _ _ s3, s4, s5, s6, s7.ex y1, s8, s9, s10⟩)
      exact good_set1 (eo_L (fun H => (el_lst (ea_cons ev_c ea_nil) (Nat.le_of_ble_eq_true rfl))) (eo_L (fun H => (el_lst ea_nil (Nat.le_of_ble_eq_true rfl))) (eo_L (fun H => (el_lst (ea_cons ev_c ea_nil) (Nat.le_of_ble_eq_true rfl))) (eo_L (fun H => (el_lst (ea_cons ev_c ea_nil) (Nat.le_of_ble_eq_true rfl))) eo_nil)))) [["public"], [], ["private"], ["protected"]] rfl (by decide +kernel) (by intro z; cases z) (by decide) (s2.ex y1) fun g2 xs2 H2 y2 t1 t2 t3 t4 t5 => k _ _ ⟨d, m, g2, xs2, _, _, _, _, rfl, s1.trans (Exa.of (y1.trans y2)), ((s2.ex y1).ex y2).le (by omega), t1, t2, t3, (by omega), t5, s8, s9, s10⟩
    clear hP
    -- if name == '<clinit>'
    refine q_mid (MSt H a wide (n + 7) nm) (fun σ3 H3 hP3 => ?_) (fun k => ?_)
    rotate_left
    · obtain ⟨d, m, g, xs, v2, v7, v8, v9, rfl, s1, s2, s3, s4, s5, s6, s7, s8, s9, s10⟩ := hP2
      refine q_when (b := decide (nm = "<clinit>")) (et_test (ev_eqSV (ev_var rfl))) (fun _ H1 y1 => ?_) (fun _ H1 y1 => k _ _ ⟨d, m, g, xs, _, _, _, _, rfl, s1.trans (Exa.of y1), (s2.ex y1).le (by omega), y1 _ _ s3, s4, s5, s6, s7.ex y1, s8, s9, s10⟩)
      refine good_set (eo_L (fun H => (el_lst (ea_cons ev_c ea_nil) (Nat.le_of_ble_eq_true rfl))) eo_nil) [["static"]] rfl (by decide +kernel) (by intro z; cases z) (by decide) (s2.ex y1) fun g2 xs2 H2 y2 t1 t2 t3 t4 t5 => ?_
      refine q_asgAny2 (rd_ifT (dr_zero (ev_var rfl) ev_c (by decide) (by decide) ((s2.ex y1).ex y2) (by omega) fun b H3 xa w3 => ⟨b, rfl, ?_⟩))
      have A := (s1.trans (Exa.of (y1.trans y2))).trans xa
      cases b with
      | true => exact ⟨_, rfl, k _ _ ⟨d, m, g2, xs2, _, _, _, _, rfl, A, w3.le (by omega), xa _ _ t2 t1, t2, t3, (by omega), t5.exa xa, s8, s9, s10⟩⟩
      | false => exact k _ _ ⟨toL "()V", m, g2, xs2, _, _, _, _, by rw [S_toL]; rfl, A, w3.le (by omega), xa _ _ t2 t1, t2, t3, (by omega), t5.exa xa, by decide +kernel, s9, s10⟩
    clear hP2
    -- if name == '<init>' and descriptor == '(I)I' and ..
    refine q_mid (MSt H a wide (n + 9) nm) (fun σ4 H4' hP4 => ?_) (fun k => ?_)
    rotate_left
    · obtain ⟨d, m, g, xs, v2, v7, v8, v9, rfl, s1, s2, s3, s4, s5, s6, s7, s8, s9, s10⟩ := hP3
      refine rd_seq (show tAnd _ _ _ _ _ from and_draw (ev_eqSV (ev_var rfl)) (ev_eqSV (ev_var rfl)) (ev_var rfl) ev_c (by decide) (by decide) s2 (by omega) fun b H3 xa w3 => ?_)
      cases b with
      | true => exact k _ _ ⟨toL "(I)V", m, g, xs, _, _, _, _, by rw [S_toL]; rfl, s1.trans xa, w3.le (by omega), xa _ _ s4 s3, s4, s5, s6, s7.exa xa, by decide +kernel, s9, s10⟩
      | false => exact k _ _ ⟨d, m, g, xs, _, _, _, _, rfl, s1.trans xa, w3.le (by omega), xa _ _ s4 s3, s4, s5, s6, s7.exa xa, s8, s9, s10⟩
    clear hP3
    obtain ⟨d4, m4, g4, xs, v2, v7, v8, v9, rfl, s1, s2, s3, s4, s5, s6, s7, s8, s9, s10⟩ := hP4
    -- flags, high
    refine rd_seq (show tPar _ _ _ _ _ _ from rd_cons (rd_call (rd_cons (rd_ev (ev_var rfl) fun H1 y1 => rd_cons (rd_ev (ev_var rfl) fun H2 y2 => rd_nil ⟨a, g4, xs, n + 9, rfl, (y1.trans y2) _ _ s3, s4, s5, s6, s7.ex (y1.trans y2), s2.ex (y1.trans y2), by omega, fun fl rs H3 hfn xa3 w3 h3 hfa hF => ?_⟩)))))
    have A3 := (s1.trans (Exa.of (y1.trans y2))).trans xa3
    have hfN : H fl = none := fresh_backA (s1.trans (Exa.of (y1.trans y2))) hfa hfn
    refine rd_cons (rd_op (rd_ev (ev_var rfl) fun H4 y4 => dr_oneL (ev_var rfl) (el_lst (ea_cons ev_c (ea_cons ev_c (ea_cons ev_c (ea_cons ev_c (ea_cons ev_c (ea_cons ev_c (ea_cons (ev_un ev_c ru_neg) ea_nil))))))) (Nat.le_of_ble_eq_true rfl)) (by intro z; cases z) (by show 7 ≤ 1000; decide) (w3.ex y4) (by omega) fun v H5 hv xa5 w5 => ?_))
    obtain ⟨u, hu0, hu1, rfl⟩ : ∃ u : Int, -1 ≤ u ∧ u ≤ 40 ∧ v = .int u := by
      simp only [List.mem_cons, List.not_mem_nil, or_false] at hv
      rcases hv with rfl | rfl | rfl | rfl | rfl | rfl | rfl <;> exact ⟨_, by decide, by decide, rfl⟩
    refine ⟨m4, u, rfl, rfl, rd_nil ⟨.ref fl, .int (m4 + u), rfl, ?_⟩⟩
    have A5 := (A3.trans (Exa.of y4)).trans xa5
    have h5 := xa5 _ _ hfa (y4 _ _ h3)
    dsimp only
    -- code = Code(..)
    have hmax : 0 ≤ (if m4 + u > 0 then m4 + u else 0) ∧ (if m4 + u > 0 then m4 + u else 0) ≤ 255 := by split <;> omega
    refine q_asgAny (rd_mk (rd_cons (rd_c (rd_cons (rd_ev (ev_max2 ev_c (ev_var rfl)) fun H6 y6 => rd_cons (rd_objs (eo_U (fun H => (eu_tup (ea_cons ev_c ea_nil) (Nat.le_of_ble_eq_true rfl))) eo_nil) (by decide) fun pr gr H7 hpr y7 h7 o7 => rd_cons ((el_lst ea_nil (Nat.le_of_ble_eq_true rfl)) H7 (Ex.refl H7) _ fun ph H8 hph y8 h8 => rd_cons ((el_lst ea_nil (Nat.le_of_ble_eq_true rfl)) H8 (Ex.refl H8) _ fun pf H9 hpf y9 h9 => rd_nil ?_))))))))
    cases o7 with
    | @cons t _ gs0 _ ot1 ot2 o8 =>
    cases o8
    intro cc dxc hcc hdxc _
    refine make_code (K := K) (t := t) (z := "return") hcc hdxc hmax.1 hmax.2 ((y8.trans y9) _ _ h7) ((y8.trans y9) _ _ ot2) (by decide +kernel) (y9 _ _ h8) h9 fun H10 dx fs y10 hcode hpl => ?_
    have e10 : Ex H5 H10 := (((y6.trans y7).trans y8).trans y9).trans y10
    have hca : CodeAt K H10 (.ref cc) true (if m4 + u > 0 then m4 + u else 0) := .inr (.inl ⟨cc, dx, fs, rfl, hcode, hpl, rfl⟩)
    have w10 := w5.ex e10
    -- one of the codes
    refine q_asgAny (rd_call (rd_cons (rd_ev (ev_var rfl) fun H11 y11 => rd_cons (rd_lst (rd_cons (rd_ev (ev_var rfl) fun H12 y12 => rd_cons (rd_ev (ev_var rfl) fun H13 y13 => rd_cons (rd_ev (ev_var rfl) fun H14 y14 => rd_cons (rd_mk (rd_cons (rd_c (rd_cons (rd_c (rd_nil fun cu dxu hcu hdxu _ => make_unc (K := K) hcu hdxu (by decide +kernel) (by decide) fun H15 dx2 fs2 y15 hunc => rd_nil ⟨by show 4 ≤ sizeLine; decide, fun pl hpl2 => rd_nil ?_⟩))))))))))))))
    have e15 : Ex H10 (upd H15 pl (.lst [.ref cc, .ref cc, .ref cc, .ref cu])) := ((((y11.trans y12).trans y13).trans y14).trans y15).trans (Ex.new hpl2)
    refine ⟨a, pl, _, n + 40, rfl, upd_same, well_ne ((w10.ex (((y11.trans y12).trans y13).trans y14)).ex y15) hpl2, (by intro z; cases z), by show 4 ≤ 1000; decide, (w10.ex e15).le (by omega), by omega, fun v H16 hv xa16 w16 => ?_⟩
    have A16 := (A5.trans (Exa.of (e10.trans e15))).trans xa16
    obtain ⟨c, hcv⟩ : ∃ c, CodeAt K H16 v c (if m4 + u > 0 then m4 + u else 0) := by
      have hv2 : v = .ref cc ∨ v = .ref cu := by
        simp only [List.mem_cons, List.not_mem_nil, or_false] at hv
        rcases hv with h | h | h | h
        · exact .inl h
        · exact .inl h
        · exact .inl h
        · exact .inr h
      rcases hv2 with rfl | rfl
      · exact ⟨true, (hca.ex e15).exa (w10.ex e15) xa16⟩
      · exact ⟨false, CodeAt.exa (w10.ex e15) xa16 (.inr (.inr ⟨cu, dx2, fs2, rfl, (Ex.new hpl2) _ _ hunc, rfl⟩))⟩
    have st1 : MSc K H a wide (n + 41) nm [some (.ref a), some (.bl wide), v2, some (.str nm), some (.str (S d4)), some (.int m4), some (.ref g4), some (.ref fl), some (.int (m4 + u)), some v] H16 := ⟨d4, _, _, _, fl, rs, m4 + u, v, c, rfl, A16, w16, xa16 _ _ hfa ((e10.trans e15) _ _ h5), hfa, ⟨hF, hfN⟩, hcv, s8⟩
    clear hcv hv hca
    -- abstract, native: none
    refine q_mid (MSc K H a wide (n + 41) nm) (fun σ5 H17 hP5 => ?_) (fun k => ?_)
    rotate_left
    · obtain ⟨d, v2, v5, v6, fl, rs, hi, x, c, e0, s1, s2, s3, s4, s5, s6, s7⟩ := st1
      cases e0
      refine q_when (b := decide (("abstract" : Str) ∈ rs) || decide (("native" : Str) ∈ rs)) (et_or (et_test (ev_inW ev_c (ev_var rfl) s3)) fun _ => et_test (ev_inW ev_c (ev_var rfl) s3)) (fun _ H1 y1 => ?_) (fun _ H1 y1 => k _ _ ⟨d4, _, _, _, fl, rs, m4 + u, v, c, rfl, s1.trans (Exa.of y1), s2.ex y1, y1 _ _ s3, s4, s5, s6.ex y1, s7⟩)
      exact q_asgAny2 (rd_c (k _ _ ⟨d4, _, _, _, fl, rs, m4 + u, .non, false, rfl, s1.trans (Exa.of y1), s2.ex y1, y1 _ _ s3, s4, s5, .inl ⟨rfl, rfl⟩, s7⟩))
    clear st1
    -- the code, or none, or an Uncut
    refine q_mid (MSc K H a wide (n + 44) nm) (fun σ6 H18 hP6 => ?_) (fun k => ?_)
    rotate_left
    · obtain ⟨d, v2, v5, v6, fl, rs, hi, x, c, rfl, s1, s2, s3, s4, s5, s6, s7⟩ := hP5
      refine q_asgAny (rd_ifT (dr_pos (ev_var rfl) ev_c (by decide) (by decide) s2 (by omega) fun b H3 xa w3 => ⟨b, rfl, ?_⟩))
      cases b with
      | true => exact ⟨_, rfl, k _ _ ⟨d, _, _, _, fl, rs, hi, x, c, rfl, s1.trans xa, w3.le (by omega), xa _ _ s4 s3, s4, s5, s6.exa s2 xa, s7⟩⟩
      | false =>
        refine rd_call (rd_cons (rd_ev (ev_var rfl) fun H4 y4 => rd_cons (rd_lst (rd_cons (rd_c (rd_cons (rd_mk (rd_cons (rd_c (rd_cons (rd_c (rd_nil fun cu dxu hcu hdxu _ => make_unc (K := K) hcu hdxu (by decide +kernel) (by decide) fun H5 dx2 fs2 y5 hunc => rd_nil ⟨by show 2 ≤ sizeLine; decide, fun pl hpl2 => rd_nil ?_⟩))))))))))))
        have e5 : Ex H3 (upd H5 pl (.lst [.non, .ref cu])) := (y4.trans y5).trans (Ex.new hpl2)
        refine ⟨a, pl, _, n + 42, rfl, upd_same, well_ne ((w3.ex y4).ex y5) hpl2, (by intro z; cases z), by show 2 ≤ 1000; decide, (w3.ex e5).le (by omega), by omega, fun v H6 hv xa6 w6 => ?_⟩
        have hcv : CodeAt K H6 v false (if hi > 0 then hi else 0) := by
          simp only [List.mem_cons, List.not_mem_nil, or_false] at hv
          rcases hv with rfl | rfl
          · exact .inl ⟨rfl, rfl⟩
          · exact CodeAt.exa (w3.ex e5) xa6 (.inr (.inr ⟨cu, dx2, fs2, rfl, (Ex.new hpl2) _ _ hunc, rfl⟩))
        exact k _ _ ⟨d, _, _, _, fl, rs, hi, v, false, rfl, ((s1.trans xa).trans (Exa.of e5)).trans xa6, w6.le (by omega), xa6 _ _ s4 (e5 _ _ (xa _ _ s4 s3)), s4, s5, hcv, s7⟩
    clear hP5
    obtain ⟨d, v2, v5, v6, fl, rs, hi, x, c, rfl, s1, s2, s3, s4, s5, s6, s7⟩ := hP6
    refine s_retU (eu_tup (ea_cons (ev_var rfl) (ea_cons (ev_var rfl) (ea_cons (ev_var rfl) (ea_cons (ev_var rfl) (ea_cons (ev_max2 ev_c (ev_var rfl)) ea_nil))))) (Nat.le_of_ble_eq_true rfl)) fun r H19 hr19 y19 h19 => ?_
    have hmx : (0 : Int) ≤ (if hi > 0 then hi else 0) := by split <;> omega
    exact q r ⟨⟨toL nm, d, rs, x⟩, if hi > 0 then hi else 0, c⟩ H19 (s1.trans (Exa.of y19)) ((s2.ex y19).le (by omega)) (well_ne s2 hr19) ⟨r, fl, rfl, s5.2, by rw [h19, S_toL], y19 _ _ s3⟩ ⟨s6.ex y19, ⟨nm, hnm, rfl⟩, s7, s5.1, hmx⟩
end
end N8

set_option maxHeartbeats 4000000
namespace N8
open PySem PySem.Spec PyProof.Rows L2 Evl
open SX (S)
abbrev sLawField : Stmt := topS 103
theorem scLawField : FnScope ["well", "is_wide", "good", "descriptor", "some", "constant", "fitting", "flags"] ["well", "is_wide"] (L2.defScope sLawField) := ⟨rfl, rfl, rfl, by decide +kernel, rfl, by decide +kernel, by decide +kernel⟩

def fnames : List Str := ["a", "b", "c", "d"]
def fdescs : List Str := ["I", "Z", "B", "S", "C", "J", "LString;", "LA;", "[I"]
theorem fnames_ok : ∀ z ∈ fnames, isNameL (toL z) = true ∧ (toL z).length ≤ 20000 ∧ PyData.strOk z = true := by decide +kernel
theorem fdescs_ok : ∀ z ∈ fdescs, isFieldL (toL z) = true ∧ (toL z).length ≤ 10000 ∧ PyData.strOk z = true := by decide +kernel
/-- a drawn field -/
def FdOk (m : Mem) : Prop := (∃ z ∈ fnames, m.name = toL z) ∧ (∃ z ∈ fdescs, m.desc = toL z) ∧ Flags m.ws ∧ ConstOk m.x
theorem FdOk.field {m : Mem} (h : FdOk m) : FieldOk m := by
  obtain ⟨⟨z, hz, e⟩, ⟨y, hy, e2⟩, hf, hc⟩ := h
  have n := fnames_ok z hz
  have d := fdescs_ok y hy
  exact ⟨by rw [e]; exact n.1, by rw [e]; exact n.2.1, by rw [e2]; exact d.1, by rw [e2]; exact d.2.1, hf, hc⟩
theorem FdOk.txt {m : Mem} (h : FdOk m) : TxtOk m := by
  obtain ⟨⟨z, hz, e⟩, ⟨y, hy, e2⟩, _⟩ := h
  exact ⟨by rw [e, S_toL]; exact (fnames_ok z hz).2.2, by rw [e2, S_toL]; exact (fdescs_ok y hy).2.2⟩
theorem ConstOk.c3 {x : V} (h : ConstOk x) : Con3 x := by
  rcases h with rfl | ⟨i, rfl, _⟩ | ⟨l, rfl, _⟩
  · exact .non
  · exact .int i
  · exact .str _
theorem con_str {z : Str} (h1 : (toL z).length ≤ 200) (h2 : (toL z).all isTextSign = true) : ConstOk (.str z) := .inr (.inr ⟨toL z, by rw [S_toL], h1, h2⟩)
theorem con_int {i : Int} (h1 : -9223372036854775808 ≤ i) (h2 : i ≤ 9223372036854775807) : ConstOk (.int i) := .inr (.inl ⟨i, rfl, h1, h2⟩)
theorem MemAt.wexa {H H' : Hp} {a : Addr} {n : Nat} {v : V} {m : Mem} (hw : WellAt H a n) (e : Exa a H H') (h : MemAt H v m) : MemAt H' v m := by
  obtain ⟨t, fl, h1, h2, h3⟩ := h
  exact ⟨t, fl, h1, e _ _ (well_nt hw h2 fun _ z => by cases z) h2, e _ _ (well_nl hw h3 (words_ne _)) h3⟩
def spLField : Sp := fun vs H Q _ => ∃ (a : Addr) (wide : Bool) (n : Nat), vs = [.ref a, .bl wide] ∧ WellAt H a n ∧ n ≤ 700000 ∧ ∀ (q : Addr) (m : Mem) (H' : Hp), Exa a H H' → WellAt H' a (n + 60) → q ≠ a → MemNew H H' (.ref q) m → FdOk m → Q (.ref q) H'
/-- between the statements -/
def FSt (H0 : Hp) (a : Addr) (wide : Bool) (n : Nat) (v3 v4 v5 : Option V) (σ' : L2.St) (H' : Hp) : Prop := ∃ (g : Addr) (xs : List V) (v6 v7 : Option V), σ' = [some (.ref a), some (.bl wide), some (.ref g), v3, v4, v5, v6, v7] ∧ Exa a H0 H' ∧ WellAt H' a n ∧
  H' g = some (.lst xs) ∧ g ≠ a ∧ xs ≠ [] ∧ xs.length ≤ 1000 ∧ Goods H' a xs
theorem val_in {kvs : List (Key × V)} {k : Key} {v : V} (h : valV kvs k = some v) : v ∈ kvs.map (·.2) := by
  unfold valV at h
  cases e : kvs.find? fun kv => decide (kv.1 = k) with
  | none => rw [e] at h; cases h
  | some p =>
    rw [e] at h
    cases h
    exact List.mem_map.mpr ⟨p, List.mem_of_find?_eq_some e, rfl⟩
section
variable {K : PySem.W.Frag} {σ : L2.St} {H H' : Hp} {te ta tb tl : TE} {tq tr : TA} {t : TT} {r : R2} {v x : V} {D : Ends} {tz tu : TS} {Q : VK}
theorem and_draw1 {ga : Bool} {e1 : TE} {a : Addr} {m : Int} {n : Nat} {R : Bool → Hp → Prop} (he1 : Ev e1 σ H (.bl ga)) (ha : Ev ta σ H (.ref a)) (hm : Ev tb σ H (.int m)) (h0 : 0 < m) (h1 : m < 1000000) (hw : WellAt H a n) (hn : n ≤ 1000000) (k : ∀ b H', Exa a H H' → WellAt H' a (n + 1) → R b H') :
    tAnd (tTest e1) (tTest (tOp (rI0 fun i j => .bl (decide (i > j))) (tCall spDraw [] L2.E0 (tCons ta (tCons tb tNil))) (tC (.int 0)))) σ H R := by
  refine he1 H (Ex.refl H) _ fun H1 x1 => ⟨ga, rfl, ?_⟩
  cases ga with
  | false => exact k false H1 (Exa.of x1) ((hw.ex x1).le (Nat.le_succ n))
  | true => exact dr_pos (ha.mono x1) (hm.mono x1) h0 h1 (hw.ex x1) hn fun b H3 xa w3 => ⟨b, rfl, k b H3 ((Exa.of x1).trans xa) w3⟩
theorem if_draw {a : Addr} {m : Int} {n : Nat} {tu tw : TS} (ha : Ev ta σ H (.ref a)) (hm : Ev tb σ H (.int m)) (h0 : 0 < m) (h1 : m < 1000000) (hw : WellAt H a n) (hn : n ≤ 1000000) (k : ∀ b H', Exa a H H' → WellAt H' a (n + 1) → if b = true then tu D σ H' else tw D σ H') :
    tIfS (tTest (tOp (rI0 fun i j => .bl (decide (i > j))) (tCall spDraw [] L2.E0 (tCons ta (tCons tb tNil))) (tC (.int 0)))) tu tw D σ H := dr_pos ha hm h0 h1 hw hn fun b H3 xa w3 => ⟨b, rfl, k b H3 xa w3⟩
end
/-! ### written dicts of lists -/
theorem vals_put {kvs : List (Key × V)} {k : Key} {v u : V} (h : u ∈ (putK kvs k v).map (·.2)) : u = v ∨ u ∈ kvs.map (·.2) := by
  unfold putK at h
  split at h
  · obtain ⟨p, hp, rfl⟩ := List.mem_map.mp h
    obtain ⟨q, hq, rfl⟩ := List.mem_map.mp hp
    by_cases e : q.1 = k
    · rw [if_pos e]; exact .inl rfl
    · rw [if_neg e]; exact .inr (List.mem_map.mpr ⟨q, hq, rfl⟩)
  · rw [List.map_append, List.mem_append] at h
    rcases h with h | h
    · exact .inr h
    · exact .inl (by simpa using h)
theorem vals_merge {u : V} : ∀ {more kvs : List (Key × V)}, u ∈ (mergeK kvs more).map (·.2) → u ∈ kvs.map (·.2) ∨ u ∈ more.map (·.2)
  | [], kvs, h => .inl h
  | p :: r, kvs, h => by
    rcases vals_merge (more := r) (kvs := putK kvs p.1 p.2) h with h | h
    · rcases vals_put h with h | h
      · exact .inr (by rw [h]; exact List.mem_cons_self)
      · exact .inl h
    · exact .inr (List.mem_cons_of_mem _ h)
def sK (kg : Str × V) : Key × V := (Sum.inr kg.1, kg.2)
def EvP (trs : List (TE × TE)) (σ : L2.St) (ks : List Str) (os : List HO) : Prop := ∀ H1, ∀ Q : List (V × V) → Hp → Prop, (∀ gs H2, Ex H1 H2 → Objs H1 H2 gs os → Q ((ks.zip gs).map fun kg => (V.str kg.1, kg.2)) H2) → tPairs trs σ H1 Q
theorem Objs.upd {H H2 : Hp} {p : Addr} {o1 o2 : HO} {gs : List V} {os : List HO} (h : Objs (upd H p o1) H2 gs os) : Objs H (L2.upd H2 p o2) gs os := by
  induction h with
  | nil => exact .nil
  | @cons q o gs os a b _ ih =>
    have hq : q ≠ p := fun e => by rw [e, upd_same] at a; cases a
    exact .cons (by rw [upd_ne hq] at a; exact a) (by rw [upd_ne hq]; exact b) ih
section
variable {K : PySem.W.Frag} {σ : L2.St} {H H' : Hp} {te ta tb tl : TE} {tq tr : TA} {Q : VK}
theorem ep_nil : EvP [] σ [] [] := fun H1 Q q => q [] H1 (Ex.refl H1) .nil
theorem ep_L {k : Str} {xs : List V} {trs : List (TE × TE)} {ks : List Str} {os : List HO} (h : ∀ H, EvL te σ H xs) (hr : EvP trs σ ks os) : EvP ((tC (.str k), te) :: trs) σ (k :: ks) (.lst xs :: os) := fun H1 Q q => h H1 H1 (Ex.refl H1) _ fun p H2 hp e2 h2 => hr H2 _ fun gs H3 e3 h3 => q (.ref p :: gs) H3 (e2.trans e3) (.cons hp (e3 _ _ h2) (h3.back e2))
theorem rd_disp {trs : List (TE × TE)} {ks : List Str} {os : List HO} (h : EvP trs σ ks os) (hl : os.length ≤ 15) (k : ∀ p gs H1, H p = none → Ex H H1 → H1 p = some (.dK (mergeK [] ((ks.zip gs).map sK))) → Objs H H1 gs os → Q (.ref p) H1) : tDisp trs σ H Q := by
  intro p hp
  refine h (upd H p (.dK [])) _ fun gs H2 e2 o2 => ⟨e2 _ _ upd_same, (ks.zip gs).map sK, ?_, ?_, ?_⟩
  · rw [List.map_map]; rfl
  · rw [List.length_map, List.length_zip]; have := o2.len; omega
  · refine k p gs _ hp (fun b o hb => ?_) upd_same o2.upd
    rw [upd_ne (ne_of_none hb hp)]
    exact e2 _ _ ((Ex.new hp) _ _ hb)
end
section
variable {P : Program} {w : World} {K : PySem.W.Frag} {mg : Str → Option Value} {base : Heap}
theorem ok_lawField {f : Addr} {fd : FuncData} (F : FnP K "_law_field" sLawField f fd) (B : Bt mg) (c_law_draw : Cl P w K mg base L2.CX0 1 "_law_draw" ["well", "many"] spDraw) (c_law_one : Cl P w K mg base L2.CX0 2 "_law_one" ["well", "some"] spOne)
    (c_law_flags : Cl P w K mg base L2.CX0 3 "_law_flags" ["well", "good"] spLFlags) : FnOk P w K mg base L2.CX0 4 f fd ["well", "is_wide"] spLField := by
  refine F.ok scLawField (fun vs H Q E h => ?_) (fun cdv A outer s H vs Q E hr h => ?_)
  · obtain ⟨a, wide, n, rfl, _⟩ := h
    rfl
  · obtain ⟨a, wide, n, rfl, hw, hn, q⟩ := h
    refine ⟨_, PSs.nox (pss_cons (ps_set (i := 2) scLawField.nd rfl (.inl rfl) (pe_op op_rep (pe_lst (pa_cons (pe_lst (pa_cons pe_str (pa_cons pe_str (pa_cons pe_str pa_nil)))) pa_nil)) pe_int))
      (pss_cons (ps_if (pt_not (pt_val (pv 1))) (pss_one (ps_set (i := 2) scLawField.nd rfl (.inl rfl) (pe_lst (pa_cons (pe_lst pa_nil) (pa_cons (pe_lst (pa_cons pe_str pa_nil)) (pa_cons (pe_lst (pa_cons pe_str (pa_cons pe_str pa_nil))) (pa_cons (pe_lst (pa_cons pe_str (pa_cons pe_str (pa_cons pe_str pa_nil)))) (pa_cons (pe_lst (pa_cons pe_str pa_nil)) (pa_cons (pe_lst (pa_cons pe_str pa_nil)) pa_nil))))))))) pss_nil)
      (pss_cons (ps_set (i := 3) scLawField.nd rfl (.inl rfl) (pe_cl c_law_one hr (by decide) (by rfl) (pa_cons (pv 0) (pa_cons (pe_lst (pa_cons pe_str (pa_cons pe_str (pa_cons pe_str (pa_cons pe_str (pa_cons pe_str (pa_cons pe_str (pa_cons pe_str (pa_cons pe_str (pa_cons pe_str pa_nil)))))))))) pa_nil))))
      (pss_cons (ps_set (i := 4) scLawField.nd rfl (.inl rfl) (pe_lst (pa_cons pe_non (pa_cons pe_non (pa_cons pe_int (pa_cons (pe_op op_sub (pe_op op_pow pe_int pe_int) pe_int) (pa_cons (pe_un un_neg (pe_op op_pow pe_int pe_int)) (pa_cons (pe_op op_pow pe_int pe_int) (pa_cons (pe_op op_sub (pe_un un_neg (pe_op op_pow pe_int pe_int)) pe_int) (pa_cons (pe_op op_sub (pe_op op_pow pe_int pe_int) pe_int) (pa_cons pe_str (pa_cons pe_str (pa_cons (pe_un un_neg pe_int) pa_nil)))))))))))))
      (pss_cons (ps_set (i := 5) scLawField.nd rfl (.inl rfl) (pe_cl c_law_one hr (by decide) (by rfl) (pa_cons (pv 0) (pa_cons (pv 4) pa_nil))))
      (pss_cons (ps_if (pt_cmpR op_gt (pe_cl c_law_draw hr (by decide) (by rfl) (pa_cons (pv 0) (pa_cons pe_int pa_nil))) pe_int (nomark _)) (pss_cons (ps_set (i := 6) scLawField.nd rfl (.inl rfl) (pe_disp (pps_cons pe_str (pe_lst (pa_cons pe_int (pa_cons (pe_un un_neg (pe_op op_pow pe_int pe_int)) pa_nil))) (pps_cons pe_str (pe_lst (pa_cons pe_str (pa_cons pe_str pa_nil))) (pps_cons pe_str (pe_lst (pa_cons pe_non pa_nil)) (pps_cons pe_str (pe_lst (pa_cons pe_non pa_nil)) pps_nil)))) rfl rfl (by decide) (by decide)))
      (pss_one (ps_set (i := 5) scLawField.nd rfl (.inl rfl) (pe_cl c_law_one hr (by decide) (by rfl) (pa_cons (pv 0) (pa_cons (pe_op op_cat (pe_dget2 (Nat.lt_of_le_of_lt (Nat.add_le_add_left (by decide) _) hr.units) (pv 6) (pv 3) (pe_lst (pa_cons pe_int (pa_cons (pe_un un_neg pe_int) (pa_cons (pe_op op_sub (pe_op op_pow pe_int pe_int) pe_int) pa_nil)))) ⟨rfl, rfl, rfl, rfl⟩) (pe_lst (pa_cons pe_non pa_nil))) pa_nil)))))) pss_nil)
      (pss_cons (ps_set (i := 7) scLawField.nd rfl (.inl rfl) (pe_cl c_law_flags hr (by decide) (by rfl) (pa_cons (pv 0) (pa_cons (pv 2) pa_nil))))
      (pss_cons (ps_if (PW.pt (pw_and (pt_cmpR op_notIn_seq pe_str (pv 7) rfl) (pw_and1 (pt_cmpR op_gt (pe_cl c_law_draw hr (by decide) (by rfl) (pa_cons (pv 0) (pa_cons pe_int pa_nil))) pe_int (nomark _))))) (pss_one (ps_set (i := 5) scLawField.nd rfl (.inl rfl) pe_non)) pss_nil)
      (pss_one (ps_ret (pe_tup (pa_cons (pe_cl c_law_one hr (by decide) (by rfl) (pa_cons (pv 0) (pa_cons (pe_lst (pa_cons pe_str (pa_cons pe_str (pa_cons pe_str (pa_cons pe_str pa_nil))))) pa_nil))) (pa_cons (pv 3) (pa_cons (pv 7) (pa_cons (pv 5) pa_nil))))))))))))))), ?_⟩
    refine q_asgAny (rd_op (rd_objs (eo_L (fun H => (el_lst (ea_cons ev_c (ea_cons ev_c (ea_cons ev_c ea_nil))) (Nat.le_of_ble_eq_true rfl))) eo_nil) (by decide) fun p gs H1 hp x1 h1 o1 => rd_c ⟨p, 3, gs, rfl, rfl, h1, by decide, by decide, sz_of (by have := o1.len; simp only [List.length_cons, List.length_nil] at this; show gs.length * 3 ≤ 100000; omega), fun p2 hp2 => ?_⟩))
    have go1 := goods_of o1 hw [["public", "static", "final"]] rfl (by decide +kernel)
    have len1 : gs.length = 1 := o1.len
    have st0 : FSt H a wide n none none none [some (.ref a), some (.bl wide), some (.ref p2), none, none, none, none, none] (upd H1 p2 (.lst (List.replicate (3 : Int).toNat gs).flatten)) := ⟨p2, _, _, _, rfl, Exa.of (x1.trans (Ex.new hp2)), hw.ex (x1.trans (Ex.new hp2)), upd_same, well_ne (hw.ex x1) hp2, (fun z => by
      have := congrArg List.length z
      rw [List.length_flatten] at this
      simp [len1] at this), by rw [List.length_flatten]; simp [len1], fun y hy => by
      have hy2 : y ∈ gs := by
        obtain ⟨l, hl, hyl⟩ := List.mem_flatten.mp hy
        rw [(List.mem_replicate.mp hl).2] at hyl
        exact hyl
      exact (go1.ex (Ex.new hp2)) y hy2⟩
    generalize upd H1 p2 (.lst (List.replicate (3 : Int).toNat gs).flatten) = H2 at st0 ⊢
    clear go1
    -- if not is_wide
    refine q_mid (FSt H a wide n none none none) (fun σ' H' hP => ?_) (fun k => ?_)
    rotate_left
    · obtain ⟨g, xs, v6, v7, e0, s1, s2, s3, s4, s5, s6, s7⟩ := st0
      cases e0
      refine q_when (b := !wide) (et_not (et_B (ev_var rfl))) (fun _ H1 y1 => ?_) (fun _ H1 y1 => k _ _ ⟨_, xs, _, _, rfl, s1.trans (Exa.of y1), s2.ex y1, y1 _ _ s3, s4, s5, s6, s7.ex y1⟩)
      exact good_set1 (eo_L (fun H => (el_lst ea_nil (Nat.le_of_ble_eq_true rfl))) (eo_L (fun H => (el_lst (ea_cons ev_c ea_nil) (Nat.le_of_ble_eq_true rfl))) (eo_L (fun H => (el_lst (ea_cons ev_c (ea_cons ev_c ea_nil)) (Nat.le_of_ble_eq_true rfl))) (eo_L (fun H => (el_lst (ea_cons ev_c (ea_cons ev_c (ea_cons ev_c ea_nil))) (Nat.le_of_ble_eq_true rfl))) (eo_L (fun H => (el_lst (ea_cons ev_c ea_nil) (Nat.le_of_ble_eq_true rfl))) (eo_L (fun H => (el_lst (ea_cons ev_c ea_nil) (Nat.le_of_ble_eq_true rfl))) eo_nil)))))) [[], ["public"], ["private", "static"], ["protected", "static", "final"], ["static"], ["final"]] rfl (by decide +kernel) (by intro z; cases z) (by decide) (s2.ex y1) fun g2 xs2 H2 y2 t1 t2 t3 t4 t5 => k _ _ ⟨g2, xs2, _, _, rfl, s1.trans (Exa.of (y1.trans y2)), (s2.ex y1).ex y2, t1, t2, t3, (by omega), t5⟩
    clear st0
    obtain ⟨g, xs, v6, v7, rfl, s1, s2, s3, s4, s5, s6, s7⟩ := hP
    -- descriptor
    refine q_asgAny (dr_oneL (ev_var rfl) (el_lst (ea_cons ev_c (ea_cons ev_c (ea_cons ev_c (ea_cons ev_c (ea_cons ev_c (ea_cons ev_c (ea_cons ev_c (ea_cons ev_c (ea_cons ev_c ea_nil))))))))) (Nat.le_of_ble_eq_true rfl)) (by intro z; cases z) (by show 9 ≤ 1000; decide) s2 (by omega) fun v H3 hv xa3 w3 => ?_)
    obtain ⟨d, hd, rfl⟩ : ∃ d ∈ fdescs, v = .str d := by
      have e : [V.str "I", V.str "Z", V.str "B", V.str "S", V.str "C", V.str "J", V.str "LString;", V.str "LA;", V.str "[I"] = fdescs.map V.str := rfl
      rw [e] at hv
      obtain ⟨d, hd, rfl⟩ := List.mem_map.mp hv
      exact ⟨d, hd, rfl⟩
    -- some, constant
    refine q_asgL (el_lst (ea_cons ev_c (ea_cons ev_c (ea_cons ev_c (ea_cons (ev_op (ev_op ev_c ev_c (rv_I (by unfold CPow; decide))) ev_c rv_I0) (ea_cons (ev_un (ev_op ev_c ev_c (rv_I (by unfold CPow; decide))) ru_neg) (ea_cons (ev_op ev_c ev_c (rv_I (by unfold CPow; decide))) (ea_cons (ev_op (ev_un (ev_op ev_c ev_c (rv_I (by unfold CPow; decide))) ru_neg) ev_c rv_I0) (ea_cons (ev_op (ev_op ev_c ev_c (rv_I (by unfold CPow; decide))) ev_c rv_I0) (ea_cons ev_c (ea_cons ev_c (ea_cons (ev_un ev_c ru_neg) ea_nil))))))))))) (Nat.le_of_ble_eq_true rfl)) fun pS H4 hpS y4 h4 => ?_
    have w4 := w3.ex y4
    refine q_asgAny (dr_one (ev_var rfl) (ev_var rfl) h4 (well_ne w3 hpS) (by intro z; cases z) (by show 11 ≤ 1000; decide) w4 (by omega) fun v H5 hv xa5 w5 => ?_)
    have hc : ConstOk v := by
      simp only [List.mem_cons, List.not_mem_nil, or_false] at hv
      rcases hv with rfl | rfl | rfl | rfl | rfl | rfl | rfl | rfl | rfl | rfl | rfl
      · exact .inl rfl
      · exact .inl rfl
      · exact con_int (by decide) (by decide)
      · exact con_int (by decide) (by decide)
      · exact con_int (by decide) (by decide)
      · exact con_int (by decide) (by decide)
      · exact con_int (by decide) (by decide)
      · exact con_int (by decide) (by decide)
      · exact con_str (by decide +kernel) (by decide +kernel)
      · exact con_str (by decide +kernel) (by decide +kernel)
      · exact con_int (by decide) (by decide)
    have A5 := ((s1.trans xa3).trans (Exa.of y4)).trans xa5
    have g5 := xa5 _ _ s4 (y4 _ _ (xa3 _ _ s4 s3))
    have go5 := ((s7.exa xa3).ex y4).exa xa5
    -- if draw > 0
    refine q_mid (fun σ' H' => ∃ u v6, σ' = [some (.ref a), some (.bl wide), some (.ref g), some (.str d), some (.ref pS), some u, v6, v7] ∧ Exa a H H' ∧ WellAt H' a (n + 5) ∧ H' g = some (.lst xs) ∧ Goods H' a xs ∧ ConstOk u) (fun σ' H' hP => ?_) (fun k => ?_)
    rotate_left
    · refine rd_seq (if_draw (ev_var rfl) ev_c (by decide) (by decide) w5 (by omega) fun b H6 xa6 w6 => ?_)
      cases b with
      | false => exact k _ _ ⟨v, _, rfl, A5.trans xa6, w6.le (by omega), xa6 _ _ s4 g5, go5.exa xa6, hc⟩
      | true =>
        refine q_asgAny (rd_disp (ep_L (fun H => (el_lst (ea_cons ev_c (ea_cons (ev_un (ev_op ev_c ev_c (rv_I (by unfold CPow; decide))) ru_neg) ea_nil)) (Nat.le_of_ble_eq_true rfl))) (ep_L (fun H => (el_lst (ea_cons ev_c (ea_cons ev_c ea_nil)) (Nat.le_of_ble_eq_true rfl))) (ep_L (fun H => (el_lst (ea_cons ev_c ea_nil) (Nat.le_of_ble_eq_true rfl))) (ep_L (fun H => (el_lst (ea_cons ev_c ea_nil) (Nat.le_of_ble_eq_true rfl))) ep_nil)))) (by decide) fun pd gs H7 hpd y7 h7 o7 => ?_)
        have w7 := w6.ex y7
        refine q_asgAny2 (rd_call (rd_cons (rd_ev (ev_var rfl) fun H8 y8 => rd_cons (rd_op ?_))))
        refine ⟨_, rfl, pd, rfl, .inl ⟨_, .inl (y8 _ _ h7)⟩, _, rfl, ?_⟩
        refine (el_lst (ea_cons ev_c (ea_cons (ev_un ev_c ru_neg) (ea_cons (ev_op (ev_op ev_c ev_c (rv_I (by unfold CPow; decide))) ev_c rv_I0) ea_nil))) (Nat.le_of_ble_eq_true rfl)) H8 (Ex.refl H8) _ fun pz H9 hpz y9 h9 => ⟨_, DGet.k (k := Sum.inr d) ((y8.trans y9) _ _ h7), ?_⟩
        obtain ⟨pg, zs, e1, e2, e3, e4, e5⟩ : ∃ pg zs, (valV (mergeK [] (((["J", "LString;", "LA;", "[I"] : List Str).zip gs).map sK)) (Sum.inr d)).getD (.ref pz) = .ref pg ∧ H9 pg = some (.lst zs) ∧ zs.length ≤ 3 ∧ zs ≠ [] ∧ ∀ u ∈ zs, ConstOk u := by
          have hz : ∀ zs : List V, zs ∈ [[V.int 5, V.int (-2 ^ 63)], [V.str "", V.str "x ~"], [V.non], [V.non], [V.int 0, V.int (-1), V.int (2 ^ 31 - 1)]] → zs.length ≤ 3 ∧ zs ≠ [] ∧ ∀ u ∈ zs, ConstOk u := by
            intro zs hzs
            simp only [List.mem_cons, List.not_mem_nil, or_false] at hzs
            rcases hzs with rfl | rfl | rfl | rfl | rfl
            · refine ⟨by decide, (by intro z; cases z), fun u hu => ?_⟩
              simp only [List.mem_cons, List.not_mem_nil, or_false] at hu
              rcases hu with rfl | rfl
              · exact con_int (by decide) (by decide)
              · exact con_int (by decide) (by decide)
            · refine ⟨by decide, (by intro z; cases z), fun u hu => ?_⟩
              simp only [List.mem_cons, List.not_mem_nil, or_false] at hu
              rcases hu with rfl | rfl
              · exact con_str (by decide +kernel) (by decide +kernel)
              · exact con_str (by decide +kernel) (by decide +kernel)
            · refine ⟨by decide, (by intro z; cases z), fun u hu => ?_⟩
              simp only [List.mem_cons, List.not_mem_nil, or_false] at hu
              exact .inl hu
            · refine ⟨by decide, (by intro z; cases z), fun u hu => ?_⟩
              simp only [List.mem_cons, List.not_mem_nil, or_false] at hu
              exact .inl hu
            · refine ⟨by decide, (by intro z; cases z), fun u hu => ?_⟩
              simp only [List.mem_cons, List.not_mem_nil, or_false] at hu
              rcases hu with rfl | rfl | rfl
              · exact con_int (by decide) (by decide)
              · exact con_int (by decide) (by decide)
              · exact con_int (by decide) (by decide)
          cases e : valV (mergeK [] (((["J", "LString;", "LA;", "[I"] : List Str).zip gs).map sK)) (Sum.inr d) with
          | none => exact ⟨pz, _, rfl, h9, hz _ (by decide)⟩
          | some u =>
            rcases vals_merge (val_in e) with h | h
            · cases h
            · obtain ⟨p, hp, rfl⟩ := List.mem_map.mp h
              obtain ⟨q, hq, rfl⟩ := List.mem_map.mp hp
              obtain ⟨g2, e2, _, o, ho, hgo⟩ := o7.get (List.of_mem_zip hq).2
              have : ∃ zs, o = .lst zs ∧ zs ∈ [[V.int 5, V.int (-2 ^ 63)], [V.str "", V.str "x ~"], [V.non], [V.non], [V.int 0, V.int (-1), V.int (2 ^ 31 - 1)]] := by
                simp only [List.mem_cons, List.not_mem_nil, or_false] at ho
                rcases ho with rfl | rfl | rfl | rfl
                · exact ⟨_, rfl, .head _⟩
                · exact ⟨_, rfl, .tail _ (.head _)⟩
                · exact ⟨_, rfl, .tail _ (.tail _ (.head _))⟩
                · exact ⟨_, rfl, .tail _ (.tail _ (.head _))⟩
              obtain ⟨zs, rfl, hzs⟩ := this
              exact ⟨g2, zs, e2, (y8.trans y9) _ _ hgo, hz _ hzs⟩
        rw [e1]
        refine (el_lst (ea_cons ev_c ea_nil) (Nat.le_of_ble_eq_true rfl)) H9 (Ex.refl H9) _ fun pn H10 hpn y10 h10 => ⟨pg, pn, zs, _, rfl, rfl, y10 _ _ e2, h10, sz_of (by show zs.length + 1 ≤ 100000; omega), fun p11 hp11 => rd_nil ?_⟩
        have e11 : Ex H6 (upd H10 p11 (.lst (zs ++ [V.non]))) := (((y7.trans y8).trans y9).trans y10).trans (Ex.new hp11)
        refine ⟨a, p11, _, n + 3, rfl, upd_same, well_ne ((w7.ex (y8.trans y9)).ex y10) hp11, (fun z => e4 (List.append_eq_nil_iff.mp z).1), by rw [List.length_append]; show zs.length + 1 ≤ 1000; omega, (w6.ex e11).le (by omega), by omega, fun u H12 hu xa12 w12 => ?_⟩
        have hcu : ConstOk u := by
          rcases List.mem_append.mp hu with h | h
          · exact e5 u h
          · exact .inl (by simpa using h)
        exact k _ _ ⟨u, _, rfl, ((A5.trans xa6).trans (Exa.of e11)).trans xa12, w12.le (by omega), xa12 _ _ s4 (e11 _ _ (xa6 _ _ s4 g5)), ((go5.exa xa6).ex e11).exa xa12, hcu⟩
    clear hc g5 go5
    obtain ⟨u, v6, rfl, A6, w6, g6, go6, hu⟩ := hP
    -- flags
    refine q_asgAny (rd_call (rd_cons (rd_ev (ev_var rfl) fun H7 y7 => rd_cons (rd_ev (ev_var rfl) fun H8 y8 => rd_nil ⟨a, g, xs, n + 5, rfl, (y7.trans y8) _ _ g6, s4, s5, s6, go6.ex (y7.trans y8), w6.ex (y7.trans y8), by omega, fun fl rs H9 hfn xa9 w9 h9 hfa hF => ?_⟩))))
    have A9 := (A6.trans (Exa.of (y7.trans y8))).trans xa9
    have hfN : H fl = none := fresh_backA (A6.trans (Exa.of (y7.trans y8))) hfa hfn
    clear go6 g6
    -- if 'static' not in flags and ..
    refine q_mid (fun σ' H' => ∃ u v6 v4 v2, σ' = [some (.ref a), some (.bl wide), v2, some (.str d), v4, some u, v6, some (.ref fl)] ∧ Exa a H H' ∧ WellAt H' a (n + 36) ∧ H' fl = some (.lst (rs.map V.str)) ∧ ConstOk u) (fun σ' H' hP => ?_) (fun k => ?_)
    rotate_left
    · refine rd_seq (and_draw1 (ga := !decide (("static" : Str) ∈ rs)) (ev_niW ev_c (ev_var rfl) h9) (ev_var rfl) ev_c (by decide) (by decide) w9 (by omega) fun b H10 xa10 w10 => ?_)
      cases b with
      | true => exact q_asgAny2 (rd_c (k _ _ ⟨.non, _, _, _, rfl, A9.trans xa10, w10.le (by omega), xa10 _ _ hfa h9, .inl rfl⟩))
      | false => exact k _ _ ⟨u, _, _, _, rfl, A9.trans xa10, w10.le (by omega), xa10 _ _ hfa h9, hu⟩
    obtain ⟨u, v6, v4, v2, rfl, A10, w10, h10, hu⟩ := hP
    -- the tuple
    refine (show tTup _ _ _ _ from rd_cons (dr_oneL (ev_var rfl) (el_lst (ea_cons ev_c (ea_cons ev_c (ea_cons ev_c (ea_cons ev_c ea_nil)))) (Nat.le_of_ble_eq_true rfl)) (by intro z; cases z) (by show 4 ≤ 1000; decide) w10 (by omega) fun v H11 hv xa11 w11 => rd_cons (rd_ev (ev_var rfl) fun H12 y12 => rd_cons (rd_ev (ev_var rfl) fun H13 y13 => rd_cons (rd_ev (ev_var rfl) fun H14 y14 => rd_nil ⟨by show 4 ≤ sizeLine; decide, fun r hr => ?_⟩)))))
    obtain ⟨nm, hnm, rfl⟩ : ∃ z ∈ fnames, v = .str z := by
      have e : [V.str "a", V.str "b", V.str "c", V.str "d"] = fnames.map V.str := rfl
      rw [e] at hv
      obtain ⟨z, hz, rfl⟩ := List.mem_map.mp hv
      exact ⟨z, hz, rfl⟩
    have e14 : Ex H11 (upd H14 r (.tup [.str nm, .str d, .ref fl, u])) := ((y12.trans y13).trans y14).trans (Ex.new hr)
    exact q r ⟨toL nm, toL d, rs, u⟩ _ ((A10.trans xa11).trans (Exa.of e14)) ((w11.ex e14).le (by omega)) (well_ne (w11.ex ((y12.trans y13).trans y14)) hr) ⟨r, fl, rfl, hfN, by rw [upd_same, S_toL, S_toL], e14 _ _ (xa11 _ _ hfa h10)⟩ ⟨⟨nm, hnm, rfl⟩, ⟨d, hd, rfl⟩, hF, hu⟩
end
end N8

set_option maxHeartbeats 4000000
namespace N8
open PySem PySem.Spec PyProof.Rows L2 Evl
open SX (S)
abbrev sLawPlan : Stmt := topS 105
theorem scLawPlan : FnScope ["well", "name", "parent", "good", "flags", "faces", "is_wide", "fields", "k"] ["well"] (L2.defScope sLawPlan) := ⟨rfl, rfl, rfl, by decide +kernel, rfl, by decide +kernel, by decide +kernel⟩

/-- members in a list that grows at D -/
def MemD (D : Addr) (H : Hp) (v : V) (m : Mem) : Prop := ∃ t fl, v = .ref t ∧ fl ≠ D ∧ H t = some (.tup [.str (S m.name), .str (S m.desc), .ref fl, m.x]) ∧ H fl = some (.lst (m.ws.map V.str))
def LMD (K : PySem.W.Frag) (D : Addr) (H : Hp) (v : V) (l : LM) : Prop := (∃ t fl, v = .ref t ∧ fl ≠ D ∧ H t = some (.tup [.str (S l.m.name), .str (S l.m.desc), .ref fl, l.m.x, .int l.high]) ∧ H fl = some (.lst (l.m.ws.map V.str))) ∧ LmOk K H l
theorem CodeAt.exl {K : PySem.W.Frag} {H H' : Hp} {D : Addr} {xs : List V} {x : V} {c : Bool} {hi : Int} (hD : H D = some (.lst xs)) (e : Exa D H H') (h : CodeAt K H x c hi) : CodeAt K H' x c hi := by
  have n : ∀ {b C dx : Addr} {fs : List (Str × V)}, H b = some (.ins C dx fs) → b ≠ D := fun h z => by rw [z, hD] at h; cases h
  rcases h with h | ⟨b, dx, fs, h1, h2, h3⟩ | ⟨b, dx, fs, h1, h2, h3⟩
  · exact .inl h
  · exact .inr (.inl ⟨b, dx, fs, h1, e _ _ (n h2) h2, h3⟩)
  · exact .inr (.inr ⟨b, dx, fs, h1, e _ _ (n h2) h2, h3⟩)
theorem MemD.well {D a : Addr} {n : Nat} {H H' : Hp} {v : V} {m : Mem} (hw : WellAt H a n) (e : Exa a H H') (h : MemD D H v m) : MemD D H' v m := by
  obtain ⟨t, fl, h1, h0, h2, h3⟩ := h
  exact ⟨t, fl, h1, h0, e _ _ (well_nt hw h2 fun _ z => by cases z) h2, e _ _ (well_nl hw h3 (words_ne _)) h3⟩
theorem MemD.exl {D : Addr} {H H' : Hp} {v : V} {m : Mem} {l : List V} (hD : H D = some (.lst l)) (e : Exa D H H') (h : MemD D H v m) : MemD D H' v m := by
  obtain ⟨t, fl, h1, h0, h2, h3⟩ := h
  exact ⟨t, fl, h1, h0, e _ _ (fun z => by rw [z, hD] at h2; cases h2) h2, e _ _ h0 h3⟩
theorem LMD.well {K : PySem.W.Frag} {D a : Addr} {n : Nat} {H H' : Hp} {v : V} {m : LM} (hw : WellAt H a n) (e : Exa a H H') (h : LMD K D H v m) : LMD K D H' v m := by
  obtain ⟨⟨t, fl, h1, h0, h2, h3⟩, h4⟩ := h
  exact ⟨⟨t, fl, h1, h0, e _ _ (well_nt hw h2 fun _ z => by cases z) h2, e _ _ (well_nl hw h3 (words_ne _)) h3⟩, h4.exa hw e⟩
theorem LMD.exl {K : PySem.W.Frag} {D : Addr} {H H' : Hp} {v : V} {m : LM} {l : List V} (hD : H D = some (.lst l)) (e : Exa D H H') (h : LMD K D H v m) : LMD K D H' v m := by
  obtain ⟨⟨t, fl, h1, h0, h2, h3⟩, h4⟩ := h
  exact ⟨⟨t, fl, h1, h0, e _ _ (fun z => by rw [z, hD] at h2; cases h2) h2, e _ _ h0 h3⟩, h4.1.exl hD e, h4.2⟩
section
variable {K : PySem.W.Frag} {σ : L2.St} {H H' : Hp} {te ta tb tl : TE} {tq tr : TA} {Q : VK}
/-- [.. for k in range(draw(well, m))] -/
theorem lc_drawn0 {α : Type} {a : Addr} {m : Int} {n c : Nat} {j : Nat} {vs : List Nat} (R : Addr → Hp → V → α → Prop) (hr : ∀ R : List V → Hp → Prop, (∀ d H1, 0 ≤ d → d < m → Exa a H H1 → WellAt H1 a (n + 1) → R [.int d] H1) → tq σ H R) (h0 : 0 < m) (h1 : m < 100) (hn : n + 1 + 100 * c ≤ 700000) (hwp : ∀ x, wipe ((wipe σ vs).set j (some x)) vs = wipe σ vs)
    (mono1 : ∀ {D n v u H H'}, WellAt H a n → Exa a H H' → R D H v u → R D H' v u) (mono2 : ∀ {D v u H H' l}, H D = some (.lst l) → Exa D H H' → R D H v u → R D H' v u)
    (he : ∀ (i : Int) (D : Addr) (l : List V) (H1 : Hp) (n1 : Nat) (Q : VK), Exa a H H1 → WellAt H1 a n1 → n1 ≤ 700000 → H1 D = some (.lst l) → (∀ v u H2, Exa a H1 H2 → WellAt H2 a (n1 + c) → R D H2 v u → Q v H2) → te ((wipe σ vs).set j (some (.int i))) H1 Q)
    (k : ∀ D ys us H', Exa a H H' → WellAt H' a (n + 1 + 100 * c) → H' D = some (.lst ys) → D ≠ a → (ys.length : Int) < m → Paired (R D H') ys us → Q (.ref D) H') :
    tLc (iRng1 tq) (gName j) tYes te vs σ H Q := hr _ fun d H1 d0 d1 xa1 w1 => ⟨d, rfl, by omega, by omega, fun D hD => by
    have hDa : D ≠ a := well_ne w1 hD
    refine lc_range (lo := 0) (n := d.toNat) (fun i H' => Exa a H1 H' ∧ WellAt H' a (n + 1 + i * c) ∧ ∃ ys us, H' D = some (.lst ys) ∧ ys.length = i ∧ Paired (R D H') ys us) ⟨Exa.of (Ex.new hD), by rw [Nat.zero_mul]; exact w1.ex (Ex.new hD), [], [], upd_same, rfl, .nil⟩ (fun i H' hi p => ⟨hwp _, ?_⟩) (fun H' p => ?_)
    · obtain ⟨p1, p2, ys, us, p3, p4, p5⟩ := p
      have hib : i * c ≤ 100 * c := Nat.mul_le_mul_right c (by omega)
      show te _ H' _
      refine he _ D ys H' _ _ (xa1.trans p1) p2 (by omega) p3 fun v u H2 xa2 w2 r2 => ⟨ys, xa2 _ _ hDa p3, sz_lt (by omega), ?_⟩
      have hxa : Exa D H2 (upd H2 D (.lst (ys ++ [v]))) := fun b o hb hbo => by rw [upd_ne hb]; exact hbo
      have h2D := xa2 _ _ hDa p3
      refine ⟨fun b o hb hbo => ?_, ?_, _, us ++ [u], upd_same, by rw [List.length_append, p4]; rfl, ?_⟩
      · rw [upd_ne (ne_of_none hbo hD)]
        exact xa2 _ _ hb (p1 _ _ hb hbo)
      · obtain ⟨x, y, z1, z2, z3⟩ := w2
        exact ⟨x, y, by rw [upd_ne (fun z => hDa z.symm)]; exact z1, z2, by rw [Nat.add_mul, Nat.one_mul]; omega⟩
      · exact Paired.snoc (Paired.mapP p5 fun _ _ z => mono2 h2D hxa (mono1 p2 xa2 z)) (mono2 h2D hxa r2)
    · obtain ⟨p1, p2, ys, us, p3, p4, p5⟩ := p
      have hib : d.toNat * c ≤ 100 * c := Nat.mul_le_mul_right c (by omega)
      exact k D ys us H' (xa1.trans p1) (p2.le (by omega)) p3 hDa (by omega) p5⟩
end
def pnames : List Str := ["A", "p/B", "Object"]
def anames : List Str := ["Object", "A", "X"]
def inames : List Str := ["I", "J", "p/K", "L"]
theorem pnames_ok : ∀ z ∈ pnames ++ anames ++ inames, isClassL (toL z) = true ∧ (toL z).length ≤ 20000 := by decide +kernel
def ParOk (v : V) : Prop := v = .non ∨ ∃ z ∈ anames, v = .str z
def parOf : V → Option (List Nat)
  | .str z => some (toL z)
  | _ => none
theorem ParOk.par {v : V} (h : ParOk v) : v = parV (parOf v) ∧ ∀ l, parOf v = some l → isClassL l = true ∧ l.length ≤ 20000 := by
  rcases h with rfl | ⟨z, hz, rfl⟩
  · exact ⟨rfl, fun l e => by cases e⟩
  · refine ⟨by show _ = V.str (S (toL z)); rw [S_toL], fun l e => ?_⟩
    cases e
    exact pnames_ok z (List.mem_append_left _ (List.mem_append_right _ hz))
theorem mems_of {R : V → Mem → Prop} {xs : List V} {ms : List Mem} (h : Paired R xs ms) : Mems R xs ms := by
  induction h with
  | nil => exact .nil
  | cons a _ ih => exact .cons a ih
theorem lms_of {R : V → LM → Prop} {xs : List V} {ms : List LM} (h : Paired R xs ms) : Lms R xs ms := by
  induction h with
  | nil => exact .nil
  | cons a _ ih => exact .cons a ih
theorem paired_all {α β : Type} {R : α → β → Prop} {xs : List α} {us : List β} {S : β → Prop} (h : Paired R xs us) (f : ∀ x u, R x u → S u) : ∀ u ∈ us, S u := by
  induction h with
  | nil => intro u hu; cases hu
  | cons a _ ih =>
    intro u hu
    rcases List.mem_cons.mp hu with rfl | hu
    · exact f _ _ a
    · exact ih u hu
def spLPlan (K : PySem.W.Frag) : Sp := fun vs H Q _ => ∃ (a : Addr) (n : Nat), vs = [.ref a] ∧ WellAt H a n ∧ n ≤ 600000 ∧
  ∀ (v : V) (d : CD) (ls : List LM) (H' : Hp), Exa a H H' → WellAt H' a (n + 15000) → PlanF K H' v d ls → CDOk d → (∀ l ∈ ls, LmOk K H' l) → (∀ m ∈ d.fields, FdOk m) → d.fields.length < 4 → ls.length < 5 → d.faces.length ≤ 4 → (∀ z ∈ d.faces, ∃ y ∈ inames, z = toL y) → (∃ y ∈ pnames, d.name = toL y) → Q v H'
section
variable {P : Program} {w : World} {K : PySem.W.Frag} {mg : Str → Option Value} {base : Heap}
theorem ok_lawPlan {f : Addr} {fd : FuncData} (F : FnP K "_law_plan" sLawPlan f fd) (B : Bt mg) (c_law_draw : Cl P w K mg base L2.CX0 1 "_law_draw" ["well", "many"] spDraw) (c_law_one : Cl P w K mg base L2.CX0 2 "_law_one" ["well", "some"] spOne)
    (c_law_flags : Cl P w K mg base L2.CX0 3 "_law_flags" ["well", "good"] spLFlags) (c_law_words : Cl P w K mg base L2.CX0 2 "_law_words" ["well", "words"] spWords) (c_law_field : Cl P w K mg base L2.CX0 4 "_law_field" ["well", "is_wide"] spLField)
    (c_law_method : Cl P w K mg base L2.CX0 6 "_law_method" ["well", "is_wide"] (spLMeth K)) : FnOk P w K mg base L2.CX0 7 f fd ["well"] (spLPlan K) := by
  refine F.ok scLawPlan (fun vs H Q E h => ?_) (fun cdv A outer s H vs Q E hr h => ?_)
  · obtain ⟨a, n, rfl, _⟩ := h
    rfl
  · obtain ⟨a, n, rfl, hw, hn, q⟩ := h
    refine ⟨_, PSs.nox (pss_cons (ps_set (i := 1) scLawPlan.nd rfl (.inl rfl) (pe_cl c_law_one hr (by decide) (by rfl) (pa_cons (pv 0) (pa_cons (pe_lst (pa_cons pe_str (pa_cons pe_str (pa_cons pe_str (pa_cons pe_str pa_nil))))) pa_nil))))
      (pss_cons (ps_set (i := 2) scLawPlan.nd rfl (.inl rfl) (pe_ifExp (pt_cmpR op_eq (pv 1) pe_str (nomark _)) pe_non pe_str))
      (pss_cons (ps_set (i := 2) scLawPlan.nd rfl (.inl rfl) (pe_ifExp (pt_cmpR op_eq (pe_cl c_law_draw hr (by decide) (by rfl) (pa_cons (pv 0) (pa_cons pe_int pa_nil))) pe_int (nomark _)) (pe_cl c_law_one hr (by decide) (by rfl) (pa_cons (pv 0) (pa_cons (pe_lst (pa_cons pe_non (pa_cons pe_str (pa_cons pe_str (pa_cons pe_str pa_nil))))) pa_nil))) (pv 2)))
      (pss_cons (ps_set (i := 3) scLawPlan.nd rfl (.inl rfl) (pe_lst (pa_cons (pe_lst (pa_cons pe_str pa_nil)) (pa_cons (pe_lst pa_nil) (pa_cons (pe_lst (pa_cons pe_str pa_nil)) (pa_cons (pe_lst (pa_cons pe_str (pa_cons pe_str pa_nil))) (pa_cons (pe_lst (pa_cons pe_str (pa_cons pe_str pa_nil))) pa_nil)))))))
      (pss_cons (ps_set (i := 4) scLawPlan.nd rfl (.inl rfl) (pe_cl c_law_flags hr (by decide) (by rfl) (pa_cons (pv 0) (pa_cons (pe_op op_cat (pv 3) (pe_op op_rep (pe_lst (pa_cons (pe_lst (pa_cons pe_str (pa_cons pe_str (pa_cons pe_str pa_nil)))) pa_nil)) pe_int)) pa_nil))))
      (pss_cons (ps_set (i := 5) scLawPlan.nd rfl (.inl rfl) (pe_cl c_law_words hr (by decide) (by rfl) (pa_cons (pv 0) (pa_cons (pe_lst (pa_cons pe_str (pa_cons pe_str (pa_cons pe_str pa_nil)))) pa_nil))))
      (pss_cons (ps_set (i := 5) scLawPlan.nd rfl (.inl rfl) (pe_op op_cat (pv 5) (pe_op op_rep (pe_lst (pa_cons (pe_cl c_law_one hr (by decide) (by rfl) (pa_cons (pv 0) (pa_cons (pe_lst (pa_cons pe_str (pa_cons pe_str (pa_cons pe_str pa_nil)))) pa_nil))) pa_nil)) (pe_callTy call_int1 (by rfl) B.int (by decide +kernel) (pa_cons (pe_cmpR op_eq (pe_cl c_law_draw hr (by decide) (by rfl) (pa_cons (pv 0) (pa_cons pe_int pa_nil))) pe_int (nomark _)) pa_nil)))))
      (pss_cons (ps_set (i := 6) scLawPlan.nd rfl (.inr rfl) (pe_cmpR op_in_seq pe_str (pv 4) rfl))
      (pss_cons (ps_setLc (i := 7) (own := [("k", 8)]) (g := gName 8) (tt := tYes) rfl scLawPlan.nd rfl rfl (sw_true rfl rfl rfl (by decide +kernel)) (pi_range1 (by rfl) B.range (pa_cons (pe_cl c_law_draw hr (by decide) (by rfl) (pa_cons (pv 0) (pa_cons pe_int pa_nil))) pa_nil)) (blkOk_by (N := ["well", "name", "parent", "good", "flags", "faces", "is_wide", "fields", "k"]) (sc := L2.defScope sLawPlan) (by decide +kernel)) (fun _ _ _ _ _ => pg_name (i := 8) scLawPlan.nd rfl (Or.inl rfl)) (fun _ _ _ _ _ => pts_nil) (fun _ _ _ _ _ => (pe_cl c_law_field hr (by decide) (by rfl) (pa_cons (pv 0) (pa_cons (pv 6) pa_nil)))))
      (pss_one (ps_ret (pe_tup (pa_cons (pv 1) (pa_cons (pv 2) (pa_cons (pv 5) (pa_cons (pv 4) (pa_cons (pv 7) (pa_cons (pe_lc (own := [("k", 8)]) (g := gName 8) (tt := tYes) rfl scLawPlan.nd (pi_range1 (by rfl) B.range (pa_cons (pe_cl c_law_draw hr (by decide) (by rfl) (pa_cons (pv 0) (pa_cons pe_int pa_nil))) pa_nil)) (blkOk_by (N := ["well", "name", "parent", "good", "flags", "faces", "is_wide", "fields", "k"]) (sc := L2.defScope sLawPlan) (by decide +kernel)) (fun _ _ _ _ _ => pg_name (i := 8) scLawPlan.nd rfl (Or.inl rfl)) (fun _ _ _ _ _ => pts_nil) (fun _ _ _ _ _ => (pe_cl c_law_method hr (by decide) (by rfl) (pa_cons (pv 0) (pa_cons (pv 6) pa_nil))))) pa_nil)))))))))))))))))), ?_⟩
    refine q_asgAny (dr_oneL (ev_var rfl) (el_lst (ea_cons ev_c (ea_cons ev_c (ea_cons ev_c (ea_cons ev_c ea_nil)))) (Nat.le_of_ble_eq_true rfl)) (by intro z; cases z) (by show 4 ≤ 1000; decide) hw (by omega) fun v H1 hv A1 w1 => ?_)
    obtain ⟨nm, hnm, rfl⟩ : ∃ z ∈ pnames, v = .str z := by
      simp only [List.mem_cons, List.not_mem_nil, or_false] at hv
      rcases hv with rfl | rfl | rfl | rfl <;> exact ⟨_, by decide, rfl⟩
    -- parent
    refine q_mid (fun σ' H' => ∃ pv, σ' = [some (.ref a), some (.str nm), some pv, none, none, none, none, none, none] ∧ Exa a H H' ∧ WellAt H' a (n + 1) ∧ ParOk pv) (fun σ' H' hP => ?_) (fun k => ?_)
    rotate_left
    · refine rd_seq (q_asgAny2 (rd_ifT (rd_ev (ev_eqSV (ev_var rfl)) fun H2 y2 => ⟨_, rfl, ?_⟩)))
      by_cases e : nm = "Object"
      · rw [if_pos (decide_eq_true e)]
        exact rd_c (k _ _ ⟨_, rfl, A1.trans (Exa.of y2), w1.ex y2, .inl rfl⟩)
      · rw [if_neg (by rw [decide_eq_false e]; decide)]
        exact rd_c (k _ _ ⟨_, rfl, A1.trans (Exa.of y2), w1.ex y2, .inr ⟨_, .head _, rfl⟩⟩)
    obtain ⟨pv0, rfl, A2, w2, hp0⟩ := hP
    clear A1 w1
    refine q_mid (fun σ' H' => ∃ pv, σ' = [some (.ref a), some (.str nm), some pv, none, none, none, none, none, none] ∧ Exa a H H' ∧ WellAt H' a (n + 3) ∧ ParOk pv) (fun σ' H' hP => ?_) (fun k => ?_)
    rotate_left
    · refine rd_seq (q_asgAny2 (rd_ifT (dr_zero (ev_var rfl) ev_c (by decide) (by decide) w2 (by omega) fun b H3 xa3 w3 => ⟨b, rfl, ?_⟩)))
      cases b with
      | false => exact ⟨_, rfl, k _ _ ⟨_, rfl, A2.trans xa3, w3.le (by omega), hp0⟩⟩
      | true =>
        refine dr_oneL (ev_var rfl) (el_lst (ea_cons ev_c (ea_cons ev_c (ea_cons ev_c (ea_cons ev_c ea_nil)))) (Nat.le_of_ble_eq_true rfl)) (by intro z; cases z) (by show 4 ≤ 1000; decide) w3 (by omega) fun v H4 hv xa4 w4 => k _ _ ⟨v, rfl, (A2.trans xa3).trans xa4, w4.le (by omega), ?_⟩
        simp only [List.mem_cons, List.not_mem_nil, or_false] at hv
        rcases hv with rfl | rfl | rfl | rfl
        · exact .inl rfl
        · exact .inr ⟨_, .head _, rfl⟩
        · exact .inr ⟨_, .tail _ (.head _), rfl⟩
        · exact .inr ⟨_, .tail _ (.tail _ (.head _)), rfl⟩
    obtain ⟨pv, rfl, A3, w3, hp⟩ := hP
    clear A2 w2 hp0
    -- flags
    refine good_set (eo_L (fun H => (el_lst (ea_cons ev_c ea_nil) (Nat.le_of_ble_eq_true rfl))) (eo_L (fun H => (el_lst ea_nil (Nat.le_of_ble_eq_true rfl))) (eo_L (fun H => (el_lst (ea_cons ev_c ea_nil) (Nat.le_of_ble_eq_true rfl))) (eo_L (fun H => (el_lst (ea_cons ev_c (ea_cons ev_c ea_nil)) (Nat.le_of_ble_eq_true rfl))) (eo_L (fun H => (el_lst (ea_cons ev_c (ea_cons ev_c ea_nil)) (Nat.le_of_ble_eq_true rfl))) eo_nil))))) [["public"], [], ["final"], ["public", "abstract"], ["abstract", "interface"]] rfl (by decide +kernel) (by intro z; cases z) (by decide) w3 fun g gs H4 x4 h4 n4a ne4 l4 go4 => ?_
    have w4 := w3.ex x4
    refine q_asgAny (rd_call (rd_cons (rd_ev (ev_var rfl) fun H5 x5 => rd_cons (rd_op (rd_ev (ev_var rfl) fun H6 x6 => rd_op (rd_objs (eo_L (fun H => (el_lst (ea_cons ev_c (ea_cons ev_c (ea_cons ev_c ea_nil))) (Nat.le_of_ble_eq_true rfl))) eo_nil) (by decide) fun pg gs2 H7 hpg x7 h7 o7 => rd_c ⟨pg, 2, gs2, rfl, rfl, h7, by decide, by decide, sz_of (by have := o7.len; simp only [List.length_cons, List.length_nil] at this; show gs2.length * 2 ≤ 100000; omega), fun p8 hp8 => ⟨g, p8, gs, _, rfl, rfl, (((x5.trans x6).trans x7).trans (Ex.new hp8)) _ _ h4, upd_same, sz_of (by
      have := o7.len
      simp only [List.length_cons, List.length_nil] at this
      rw [List.length_flatten]
      simp [this]
      omega), fun p9 hp9 => rd_nil ?_⟩⟩))))))
    have len7 := o7.len
    simp only [List.length_cons, List.length_nil] at len7
    have e9 : Ex H4 (upd (upd H7 p8 (.lst (List.replicate (2 : Int).toNat gs2).flatten)) p9 (.lst (gs ++ (List.replicate (2 : Int).toNat gs2).flatten))) := (((x5.trans x6).trans x7).trans (Ex.new hp8)).trans (Ex.new hp9)
    have w6 := w4.ex (x5.trans x6)
    have go7 := goods_of o7 w6 [["public", "abstract", "interface"]] rfl (by decide +kernel)
    refine ⟨a, p9, _, n + 3, rfl, upd_same, well_ne ((w6.ex x7).ex (Ex.new hp8)) hp9, (fun z => ne4 (List.append_eq_nil_iff.mp z).1), (by
      rw [List.length_append, List.length_flatten]
      simp [len7]
      omega), (fun y hy => ?_), w4.ex e9, by omega, fun fl rs H10 _ xa10 w10 h10 hfa hF => ?_⟩
    · rcases List.mem_append.mp hy with h | h
      · exact (go4.ex e9) y h
      · obtain ⟨l, hl, hyl⟩ := List.mem_flatten.mp h
        rw [(List.mem_replicate.mp hl).2] at hyl
        exact (go7.ex ((Ex.new hp8).trans (Ex.new hp9))) y hyl
    have A10 := (A3.trans (Exa.of (x4.trans e9))).trans xa10
    clear go4 go7 h7 o7 w6 e9 h4 w4
    -- faces
    refine q_asgAny (rd_call (rd_cons (rd_ev (ev_var rfl) fun H11 x11 => rd_cons ((el_lst (ea_cons ev_c (ea_cons ev_c (ea_cons ev_c ea_nil))) (Nat.le_of_ble_eq_true rfl)) H11 (Ex.refl H11) _ fun pw H12 hpw x12 h12 => rd_nil ?_))))
    refine ⟨a, pw, ["I", "J", "p/K"], n + 3 + 30, rfl, h12, well_ne (w10.ex x11) hpw, by decide +kernel, by decide, (w10.ex x11).ex x12, by omega, fun pf fs H13 _ xa13 w13 h13 hpfa hfm _ hfl => ?_⟩
    have A13 := (A10.trans (Exa.of (x11.trans x12))).trans xa13
    have f13 := xa13 _ _ hfa ((x11.trans x12) _ _ h10)
    refine q_asgAny (rd_op (rd_ev (ev_var rfl) fun H14 x14 => rd_op (rd_lst (rd_cons (dr_oneL (ev_var rfl) (el_lst (ea_cons ev_c (ea_cons ev_c (ea_cons ev_c ea_nil))) (Nat.le_of_ble_eq_true rfl)) (by intro z; cases z) (by show 3 ≤ 1000; decide) (w13.ex x14) (by omega) fun v H15 hv xa15 w15 => rd_nil ⟨by show 1 ≤ sizeLine; decide, fun p16 hp16 => rd_cb (rd_cons ?_)⟩)))))
    have e16 : Ex H15 (upd H15 p16 (.lst [v])) := Ex.new hp16
    refine dr_zero (ev_var rfl) ev_c (by decide) (by decide) (w15.ex e16) (by omega) fun b H17 xa17 w17 => rd_nil (.inr ⟨b, rfl, p16, _, _, rfl, rfl, xa17 _ _ (well_ne w15 hp16) upd_same, by cases b <;> decide, by cases b <;> decide, by cases b <;> exact sz_of (Nat.le_of_ble_eq_true rfl), fun p18 hp18 => ⟨pf, p18, _, _, rfl, rfl, (Ex.new hp18) _ _ (xa17 _ _ hpfa (e16 _ _ (xa15 _ _ hpfa (x14 _ _ h13)))), upd_same, sz_of ?_, fun p19 hp19 => ?_⟩⟩)
    · rw [List.length_map]
      have : fs.length ≤ 3 := hfl
      cases b
      · show fs.length + 0 ≤ 100000; omega
      · show fs.length + 1 ≤ 100000; omega
    obtain ⟨z, hz, rfl⟩ : ∃ z ∈ inames, v = .str z := by
      simp only [List.mem_cons, List.not_mem_nil, or_false] at hv
      rcases hv with rfl | rfl | rfl
      · exact ⟨_, .head _, rfl⟩
      · exact ⟨_, .tail _ (.head _), rfl⟩
      · exact ⟨_, .tail _ (.tail _ (.tail _ (.head _))), rfl⟩
    have e19 : Ex H17 (upd (upd H17 p18 (.lst (List.replicate (if b = true then (1 : Int) else 0).toNat [V.str z]).flatten)) p19 (.lst (fs.map V.str ++ (List.replicate (if b = true then (1 : Int) else 0).toNat [V.str z]).flatten))) := (Ex.new hp18).trans (Ex.new hp19)
    obtain ⟨fs2, hfs2, hl2, hm2⟩ : ∃ fs2 : List Str, fs.map V.str ++ (List.replicate (if b = true then (1 : Int) else 0).toNat [V.str z]).flatten = fs2.map V.str ∧ fs2.length ≤ 4 ∧ ∀ y ∈ fs2, y ∈ inames := by
      have hfm2 : ∀ y ∈ fs, y ∈ inames := fun y hy => by
        have := hfm y hy
        simp only [List.mem_cons, List.not_mem_nil, or_false] at this
        rcases this with rfl | rfl | rfl
        · exact .head _
        · exact .tail _ (.head _)
        · exact .tail _ (.tail _ (.head _))
      have : fs.length ≤ 3 := hfl
      cases b with
      | false => exact ⟨fs, by simp, by omega, hfm2⟩
      | true =>
        refine ⟨fs ++ [z], by simp, by rw [List.length_append]; simp; omega, fun y hy => ?_⟩
        rcases List.mem_append.mp hy with h | h
        · exact hfm2 y h
        · rw [List.mem_singleton.mp h]; exact hz
    have h19 : (upd (upd H17 p18 (.lst (List.replicate (if b = true then (1 : Int) else 0).toNat [V.str z]).flatten)) p19 (.lst (fs.map V.str ++ (List.replicate (if b = true then (1 : Int) else 0).toNat [V.str z]).flatten))) p19 = some (.lst (fs2.map V.str)) := by rw [upd_same, hfs2]
    have A19 := (((A13.trans (Exa.of x14)).trans xa15).trans (Exa.of e16)).trans (xa17.trans (Exa.of e19))
    have f19 := e19 _ _ (xa17 _ _ hfa (e16 _ _ (xa15 _ _ hfa (x14 _ _ f13))))
    have w19 := w17.ex e19
    have n19a : p19 ≠ a := well_ne (w17.ex (Ex.new hp18 (o := .lst (List.replicate (if b = true then (1 : Int) else 0).toNat [V.str z]).flatten))) hp19
    generalize (upd (upd H17 p18 (.lst (List.replicate (if b = true then (1 : Int) else 0).toNat [V.str z]).flatten)) p19 (.lst (fs.map V.str ++ (List.replicate (if b = true then (1 : Int) else 0).toNat [V.str z]).flatten))) = H19 at h19 A19 f19 w19 ⊢
    -- is_wide
    refine q_asgAny (rd_ev (ev_inW ev_c (ev_var rfl) f19) fun H20 x20 => ?_)
    have w20 := (w19.ex x20)
    -- fields
    refine q_asgAny (lc_drawn0 (a := a) (m := 4) (n := n + 100) (c := 60) (fun D H v m => MemD D H v m ∧ FdOk m) (fun R q => rd_cons (dr_draw (ev_var rfl) ev_c (by decide) (by decide) w20 (by omega) fun d H1 d0 d1 xa1 w1 => rd_nil (q d H1 d0 d1 xa1 (w1.le (by omega))))) (by decide) (by decide) (by omega) (fun _ => rfl) (fun w e h => ⟨h.1.well w e, h.2⟩) (fun w e h => ⟨h.1.exl w e, h.2⟩)
      (fun i D l H1 n1 Q xa1 w1 hn1 hD q => rd_call (rd_cons (rd_ev (ev_var rfl) fun H2 x2 => rd_cons (rd_ev (ev_var rfl) fun H3 x3 => rd_nil ⟨a, _, n1, rfl, w1.ex (x2.trans x3), by omega, fun t m H4 xa4 w4 ht hm hok => q _ m H4 ((Exa.of (x2.trans x3)).trans xa4) w4 ?_⟩)))) fun pF xf ms H21 xa21 w21 h21 npF lF hF2 => ?_)
    · obtain ⟨t2, fl2, z1, z2, z3, z4⟩ := hm
      exact ⟨⟨t2, fl2, z1, (fun e => by rw [e, (x2.trans x3) _ _ hD] at z2; cases z2), z3, z4⟩, hok⟩
    have A21 := ((A19.trans (Exa.of x20)).trans xa21)
    -- the tuple
    refine (show tTup _ _ _ _ from rd_cons (rd_ev (ev_var rfl) fun H22 x22 => rd_cons (rd_ev (ev_var rfl) fun H23 x23 => rd_cons (rd_ev (ev_var rfl) fun H24 x24 => rd_cons (rd_ev (ev_var rfl) fun H25 x25 => rd_cons (rd_ev (ev_var rfl) fun H26 x26 => rd_cons (lc_drawn0 (a := a) (m := 5) (n := n + 7000) (c := 60) (LMD K) (fun R q => rd_cons (dr_draw (ev_var rfl) ev_c (by decide) (by decide) (w21.ex ((((x22.trans x23).trans x24).trans x25).trans x26)) (by omega) fun d H1 d0 d1 xa1 w1 => rd_nil (q d H1 d0 d1 xa1 (w1.le (by omega))))) (by decide) (by decide) (by omega) (fun _ => rfl) LMD.well LMD.exl
      (fun i D l H1 n1 Q xa1 w1 hn1 hD q => rd_call (rd_cons (rd_ev (ev_var rfl) fun H2 x2 => rd_cons (rd_ev (ev_var rfl) fun H3 x3 => rd_nil ⟨a, _, n1, rfl, w1.ex (x2.trans x3), by omega, fun t m H4 xa4 w4 ht hm hok => q _ m H4 ((Exa.of (x2.trans x3)).trans xa4) w4 ?_⟩)))) fun pM xm ls H27 xa27 w27 h27 npM lM hM => rd_nil ⟨by show 6 ≤ sizeLine; decide, fun r hr => ?_⟩)))))))
    · obtain ⟨t2, fl2, z1, z2, z3, z4⟩ := hm
      exact ⟨⟨t2, fl2, z1, (fun e => by rw [e, (x2.trans x3) _ _ hD] at z2; cases z2), z3, z4⟩, hok⟩
    have e26 : Ex H21 H26 := (((x22.trans x23).trans x24).trans x25).trans x26
    have e28 : Ex H27 (upd H27 r (.tup [.str nm, pv, .ref p19, .ref fl, .ref pF, .ref pM])) := Ex.new hr
    have A28 := (A21.trans (Exa.of e26)).trans (xa27.trans (Exa.of e28))
    have X : Exa a H21 (upd H27 r (.tup [.str nm, pv, .ref p19, .ref fl, .ref pF, .ref pM])) := (Exa.of e26).trans (xa27.trans (Exa.of e28))
    obtain ⟨hp1, hp2⟩ := hp.par
    have hpl : List.length xf = List.length ms := Paired.length hF2
    have hpl2 : List.length xm = List.length ls := Paired.length hM
    have hmeth : ∀ l ∈ ls, LmOk K (upd H27 r (.tup [.str nm, pv, .ref p19, .ref fl, .ref pF, .ref pM])) l := paired_all hM fun x u h => ⟨h.2.1.ex e28, h.2.2⟩
    refine q (.ref r) ⟨toL nm, parOf pv, fs2.map toL, rs, ms, ls.map (·.m)⟩ ls _ A28 ((w27.ex e28).le (by omega)) ⟨r, p19, fl, pF, pM, xf, xm, rfl, ?_, ?_, X _ _ hfa (xa21 _ _ hfa (x20 _ _ f19)), X _ _ npF h21, mems_of (Paired.mapP hF2 fun x m h => ?_), ?_, e28 _ _ h27, lms_of (Paired.mapP hM fun x m h => ?_), ?_, rfl, ?_⟩ ⟨pnames_ok nm (List.mem_append_left _ (List.mem_append_left _ hnm)) |> fun h => ⟨h.1, h.2⟩, hp2, fun l hl => ?_, hF, fun m hm => ?_, fun m hm => ?_⟩ hmeth (paired_all hF2 fun x u h => h.2) ?_ ?_ ?_ ?_ ⟨nm, hnm, rfl⟩
    · rw [upd_same, ← hp1]
      show some (HO.tup [.str nm, _, _, _, _, _]) = some (HO.tup [V.str (S (toL nm)), _, _, _, _, _])
      first | done | rw [S_toL]
    · have := X _ _ n19a (xa21 _ _ n19a (x20 _ _ h19))
      rw [this, List.map_map]
      congr 2
    · obtain ⟨⟨t2, fl2, z1, z2, z3, z4⟩, _⟩ := h.1.well w21 X |> fun z => And.intro z trivial
      exact ⟨t2, fl2, z1, z3, z4⟩
    · omega
    · obtain ⟨t2, fl2, z1, z2, z3, z4⟩ := h.1
      exact ⟨t2, fl2, z1, e28 _ _ z3, e28 _ _ z4⟩
    · omega
    · intro m hm
      obtain ⟨l, hl, rfl⟩ := List.mem_map.mp hm
      exact (hmeth l hl).1.v
    · obtain ⟨y, hy, rfl⟩ := List.mem_map.mp hl
      exact pnames_ok y (List.mem_append_right _ (hm2 y hy))
    · exact (paired_all (S := FdOk) hF2 (fun x u h => h.2) m hm).field
    · obtain ⟨l, hl, rfl⟩ := List.mem_map.mp hm
      exact (hmeth l hl).meth
    · show ms.length < 4; omega
    · omega
    · show (fs2.map toL).length ≤ 4; rw [List.length_map]; exact hl2
    · intro z hz
      obtain ⟨y, hy, rfl⟩ := List.mem_map.mp hz
      exact ⟨y, hm2 y hy, rfl⟩
end
end N8

set_option maxHeartbeats 4000000
namespace N8
open PySem PySem.Spec PyProof.Rows L2 Evl
open SX (S)
abbrev sLawMethodDue : Stmt := topS 111
theorem scLawMethodDue : FnScope ["is_wide", "method", "ahead", "name", "descriptor", "flags", "code", "high", "inner", "many", "one"] ["is_wide", "method", "ahead"] (L2.defScope sLawMethodDue) := ⟨rfl, rfl, rfl, by decide +kernel, rfl, by decide +kernel, by decide +kernel⟩

/-! ### what is wrong with a method -/
def occ (d : Str) : List Nat := Builtin.Str.occurrences d (")" : Str) 0 d.length 1
def closeAt (d : Str) : Nat := (occ d).headD 0
def innerS (d : Str) : Str := cutS d (some 1) (some (closeAt d : Int))
def lenJ (i : Str) : Int := (i.length : Int) + Txt.count i ("J" : Str)
def manyS (d : Str) : Int := if innerS d = "[JLIJ;" then 2 else if innerS d = "[[LA;J" then 3 else lenJ (innerS d)
def lastV (d : List Nat) : Str := ⟨#[(atI (S d).cps.toList (-1)).getD 0]⟩
theorem descs_m : ∀ d ∈ descs7, occ (S d) = closeAt (S d) :: (occ (S d)).tail ∧ (S d).length ≤ 100000 ∧ (innerS (S d)).length ≤ 100000 ∧ atI (S d).cps.toList (-1) = some ((atI (S d).cps.toList (-1)).getD 0) ∧ PyData.strOk (S d) = true := by decide +kernel
theorem names_m : ∀ z ∈ nameS, PyData.strOk z = true := by decide +kernel
theorem LmOk.txt {K : PySem.W.Frag} {H : Hp} {l : LM} (h : LmOk K H l) : TxtOk l.m := by
  obtain ⟨_, ⟨z, hz, e⟩, hd, _, _⟩ := h
  exact ⟨by rw [e, S_toL]; exact names_m z hz, (descs_m _ hd).2.2.2.2⟩
def sameL (l o : LM) : Bool := same2 o.m l.m
def methodDue (wide : Bool) (l : LM) (ahead : List LM) : Option Str :=
  if badF wide (S l.m.name) l.m.ws = true then some "flags"
  else if (decide (S l.m.name = "<init>") && wide) = true then some "init"
  else if ((decide (S l.m.name = "<init>") && !decide (lastV l.m.desc = "V")) || (decide (S l.m.name = "<clinit>") && !decide (S l.m.desc = "()V"))) = true then some "result"
  else if (ahead.any (sameL l)) = true then some "twice"
  else if (!decide (V.bl (decide (l.m.x = .non)) = V.bl (decide (("abstract" : Str) ∈ l.m.ws) || decide (("native" : Str) ∈ l.m.ws)))) = true then some "code"
  else if (l.code && decide (l.high < manyS (S l.m.desc) + (if (!decide (("static" : Str) ∈ l.m.ws)) = true then 1 else 0))) = true then some "places"
  else none
def spMethDue (K : PySem.W.Frag) : Sp := fun vs H Q _ => ∃ (wide : Bool) (v : V) (p : Addr) (l : LM) (xs : List V) (ahead : List LM), vs = [.bl wide, v, .ref p] ∧ LMAt H v l ∧ LmOk K H l ∧ H p = some (.lst xs) ∧ Lms (LMAt H) xs ahead ∧ xs.length ≤ 100 ∧ (∀ o ∈ ahead, TxtOk o.m) ∧
  ∀ H', Ex H H' → Q (optV (methodDue wide l ahead)) H'
theorem any_atL (l : List LM) (g : LM → Bool) : ((List.range l.length).any fun i => (l[i]?).any g) = l.any g := by
  cases h : l.any g with
  | true =>
    obtain ⟨o, ho, hg⟩ := List.any_eq_true.mp h
    obtain ⟨i, hi, rfl⟩ := List.getElem_of_mem ho
    exact List.any_eq_true.mpr ⟨i, List.mem_range.mpr hi, by rw [List.getElem?_eq_getElem hi]; exact hg⟩
  | false =>
    refine List.any_eq_false.mpr fun i hi => ?_
    have hlt := List.mem_range.mp hi
    rw [List.getElem?_eq_getElem hlt]
    exact List.any_eq_false.mp h _ (List.getElem_mem hlt)
theorem Lms.at {R : V → LM → Prop} : ∀ {vs : List V} {ms : List LM} {i : Nat} {v : V}, Lms R vs ms → vs[i]? = some v → ∃ m, ms[i]? = some m ∧ R v m
  | _, _, _, _, .nil, h => by simp at h
  | _, _, 0, v, .cons h1 _, h => by
    obtain rfl : _ = v := by simpa using h
    exact ⟨_, rfl, h1⟩
  | _, _, i + 1, v, .cons _ h2, h => by
    obtain ⟨m, e, r⟩ := Lms.at (i := i) h2 (by simpa using h)
    exact ⟨m, by simpa using e, r⟩
theorem Lms.len {R : V → LM → Prop} {vs : List V} {ms : List LM} (h : Lms R vs ms) : vs.length = ms.length := by
  induction h with
  | nil => rfl
  | cons _ _ ih => exact congrArg Nat.succ ih
section
variable {K : PySem.W.Frag} {σ : L2.St} {H H' : Hp} {te ta tb tl : TE} {t : TT} {v x : V}
theorem eu_pair5 {p : Addr} {a b c d e : V} (h : Ev te σ H (.ref p)) (hp : H p = some (.tup [a, b, c, d, e])) : EvU (tSl (rSlT K) te tNoPart (tPart (tC (.int 2)))) σ H [a, b] := fun H1 e Q q =>
  h H1 e _ fun H2 e2 => ⟨2, rfl, p, _, rfl, st_of ((e.trans e2) _ _ hp), (fun z => by cases z.2), fun r hr => q r _ (fresh_back e2 hr) (e2.trans (Ex.new hr)) upd_same⟩
theorem tup5 {K : PySem.W.Frag} {σ : L2.St} {H : Hp} {t : Addr} {a b c d e : V} (h : H t = some (.tup [a, b, c, d, e])) {i j k l m : Nat} {Q : L2.St → Hp → Prop} (q : Q (((((σ.set i (some a)).set j (some b)).set k (some c)).set l (some d)).set m (some e)) H) :
    gTup K 5 (gCons (gName i) (gCons (gName j) (gCons (gName k) (gCons (gName l) (gCons (gName m) gNil))))) (.ref t) σ H Q := ⟨t, _, rfl, st_of h, rfl, _, _, rfl, _, _, rfl, _, _, rfl, _, _, rfl, _, _, rfl, rfl, q⟩
theorem ev_sindex {a b : Str} {i : Nat} {rest : List Nat} (h : Ev te σ H (.str a)) (h2 : Ev ta σ H (.str b)) (ho : Builtin.Str.occurrences a b 0 a.length 1 = i :: rest) : Ev (tBM K "str" (fun x xs H Q => ∃ a b i rest, x = .str a ∧ xs = [.str b] ∧ Builtin.Str.occurrences a b 0 a.length 1 = i :: rest ∧ Q (.int (i : Nat)) H) te (tCons ta tNil)) σ H (.int (i : Nat)) := fun H1 e Q q =>
  h H1 e _ fun H2 e2 => ⟨rfl, h2 H2 (e.trans e2) _ fun H3 e3 => ⟨a, b, i, rest, rfl, rfl, ho, q H3 (e2.trans e3)⟩⟩
theorem ev_scount {a b : Str} (h : Ev te σ H (.str a)) (h2 : Ev ta σ H (.str b)) : Ev (tBM K "str" (fun x xs H Q => ∃ a b, x = .str a ∧ xs = [.str b] ∧ Q (.int (Txt.count a b)) H) te (tCons ta tNil)) σ H (.int (Txt.count a b)) := fun H1 e Q q =>
  h H1 e _ fun H2 e2 => ⟨rfl, h2 H2 (e.trans e2) _ fun H3 e3 => ⟨a, b, rfl, rfl, q H3 (e2.trans e3)⟩⟩
theorem ev_lenSS {z : Str} (h : Ev te σ H (.str z)) (hl : z.length ≤ 100000) : Ev (tCB rLenT (tCons te tNil)) σ H (.int (z.length : Int)) := fun H1 e Q q =>
  h H1 e _ fun H2 e2 => ⟨z, rfl, sz_of hl, q H2 e2⟩
theorem ev_slSS {z : Str} {tlo thi : TO} {lo hi : Option Int} (h : Ev te σ H (.str z)) (h1 : EvO tlo σ H lo) (h2 : EvO thi σ H hi) (hl : z.length ≤ 100000) : Ev (tSl rSlS te tlo thi) σ H (.str (cutS z lo hi)) := fun H1 e Q q =>
  h H1 e _ fun H2 e2 => h1 H2 (e.trans e2) _ fun H3 e3 => h2 H3 ((e.trans e2).trans e3) _ fun H4 e4 => ⟨z, rfl, sz_of hl, q H4 ((e2.trans e3).trans e4)⟩
theorem ev_bsym {a b : Bool} (h : Ev te σ H (.bl a)) (h2 : Ev ta σ H (.bl b)) : Ev (tOp rNe te ta) σ H (.bl (!decide (V.bl a = V.bl b))) := ev_op h h2 (rv_ne rfl)
end
section
variable {P : Program} {w : World} {K : PySem.W.Frag} {mg : Str → Option Value} {base : Heap}
theorem ok_methodDue {f : Addr} {fd : FuncData} (F : FnP K "_law_method_due" sLawMethodDue f fd) (B : Bt mg) (cu : CU2 K mg) (c_law_flags_bad : Cl P w K mg base L2.CX0 2 "_law_flags_bad" ["is_wide", "name", "flags"] spBadF) :
    FnOk P w K mg base L2.CX0 3 f fd ["is_wide", "method", "ahead"] (spMethDue K) := by
  have g_Code := cu.gC
  refine F.ok scLawMethodDue (fun vs H Q E h => ?_) (fun cdv A outer s H vs Q E hr h => ?_)
  · obtain ⟨wide, v, p, l, xs, ahead, rfl, _⟩ := h
    rfl
  · obtain ⟨wide, v, p, l, xs, ahead, rfl, ⟨t, fl, rfl, ht, hfl⟩, hok, hp, hM, hlen, okA, q⟩ := h
    refine ⟨_, PSs.nox (pss_cons (ps_asg (pv 1) (pg_tup rfl (pgs_cons (pg_name (i := 3) scLawMethodDue.nd rfl (.inl rfl)) (pgs_cons (pg_name (i := 4) scLawMethodDue.nd rfl (.inl rfl)) (pgs_cons (pg_name (i := 5) scLawMethodDue.nd rfl (.inl rfl)) (pgs_cons (pg_name (i := 6) scLawMethodDue.nd rfl (.inl rfl)) (pgs_cons (pg_name (i := 7) scLawMethodDue.nd rfl (.inl rfl)) pgs_nil)))))))
      (pss_cons (ps_if (pt_val (pe_cl c_law_flags_bad hr (by decide) (by rfl) (pa_cons (pv 0) (pa_cons (pv 3) (pa_cons (pv 5) pa_nil))))) (pss_one (ps_ret pe_str)) pss_nil)
      (pss_cons (ps_if (PW.pt (pw_and (pt_cmpR op_eq (pv 3) pe_str (nomark _)) (pw_and1 (pt_val (pv 0))))) (pss_one (ps_ret pe_str)) pss_nil)
      (pss_cons (ps_if (PW.pt (pw_or (PW.pt (pw_and (pt_cmpR op_eq (pv 3) pe_str (nomark _)) (pw_and1 (pt_cmpR op_ne (pe_ix ix_str (pv 4) (pe_un un_neg pe_int) (fun _ _ => rfl)) pe_str (nomark _))))) (pw_or1 (PW.pt (pw_and (pt_cmpR op_eq (pv 3) pe_str (nomark _)) (pw_and1 (pt_cmpR op_ne (pv 4) pe_str (nomark _)))))))) (pss_one (ps_ret pe_str)) pss_nil)
      (pss_cons (ps_if (pt_cmpR (SD.op_neNil (Nat.lt_of_le_of_lt (Nat.le_add_right _ 64) hr.units)) (pe_lc (own := [("one", 10)]) (g := gName 10) rfl scLawMethodDue.nd (pi_list (pv 2)) (blkOk_by (N := ["is_wide", "method", "ahead", "name", "descriptor", "flags", "code", "high", "inner", "many", "one"]) (sc := L2.defScope sLawMethodDue) (by decide +kernel)) (fun _ _ _ _ _ => pg_name (i := 10) scLawMethodDue.nd rfl (Or.inl rfl)) (fun _ _ _ _ _ => (pts_one (pt_cmpR (r := rEqD K) (op_eqD hr.units) (pe_slice (r := rSlT K) sl_tup (pv 10) po_none (po_some pe_int)) (pe_slice (r := rSlT K) sl_tup (pv 1) po_none (po_some pe_int)) (nomark _)))) (fun _ _ _ _ _ => (pv 10))) (pe_lst pa_nil) (nomark _)) (pss_one (ps_ret pe_str)) pss_nil)
      (pss_cons (ps_if (pt_cmpR op_ne (pe_cmpR op_isN (pv 6) pe_non (nomark _)) (pe_or (pe_cmpR op_in_seq pe_str (pv 5) rfl) (pe_one (pe_cmpR op_in_seq pe_str (pv 5) rfl))) (nomark _)) (pss_one (ps_ret pe_str)) pss_nil)
      (pss_cons (ps_set (i := 8) scLawMethodDue.nd rfl (.inl rfl) (pe_slice sl_str (pv 4) (po_some pe_int) (po_some (pe_bm PySem.F.plainAttrs_str PySem.F.slot_str_index PySem.F.type_str_index mt_sindex (pv 4) (pa_cons pe_str pa_nil)))))
      (pss_cons (ps_set (i := 9) scLawMethodDue.nd rfl (.inl rfl) (pe_op op_add (pe_dget2 (Nat.lt_of_le_of_lt (Nat.add_le_add_left (by decide) _) hr.units) (pe_disp (pps_cons pe_str pe_int (pps_cons pe_str pe_int pps_nil)) rfl rfl (by decide) (by decide)) (pv 8) (pe_op op_add (pe_callB call_len_str (by rfl) B.len PySem.boot_len (pa_cons (pv 8) pa_nil)) (pe_bm PySem.F.plainAttrs_str PySem.F.slot_str_count PySem.F.type_str_count mt_count (pv 8) (pa_cons pe_str pa_nil))) ⟨rfl, rfl, rfl, rfl⟩) (pe_callTy call_int1 (by rfl) B.int (by decide +kernel) (pa_cons (pe_cmpR op_notIn_seq pe_str (pv 5) rfl) pa_nil))))
      (pss_one (ps_ret (pe_ifExp (PW.pt (pw_and (pt_val (pe_callB call_isi (by rfl) B.isi (by decide +kernel) (pa_cons (pv 6) (pa_cons (pe_glob (v := .ref (cl K "Code")) (by rfl) g_Code rfl) pa_nil)))) (pw_and1 (pt_cmpR op_lt (pv 7) (pv 9) (nomark _))))) pe_str pe_non))))))))))), ?_⟩
    have ok := hok.txt
    have dm := descs_m _ hok.2.2.1
    have hf := hok.2.2.2.1
    refine ⟨.ref t, rfl, tup5 ht ?_⟩
    refine q_when (b := badF wide (S l.m.name) l.m.ws) (et_test (ev_call (ea_cons (ev_var rfl) (ea_cons (ev_var rfl) (ea_cons (ev_var rfl) ea_nil))) fun H2 e2 Q' q' E' => ⟨wide, _, fl, l.m.ws, rfl, e2 _ _ hfl, hf, q'⟩)) (fun e H1 x1 => ?_) (fun e1 H1 x1 => ?_)
    · refine s_ret (v := optV (methodDue wide l ahead)) (ev_is ev_c ?_) fun H3 x3 => q H3 (x1.trans x3)
      unfold methodDue
      rw [if_pos e]; rfl
    refine q_when (b := decide (S l.m.name = "<init>") && wide) (et_and (et_test (ev_eqSV (ev_var rfl))) fun _ => et_B (ev_var rfl)) (fun e H2 x2 => ?_) (fun e2 H2 x2 => ?_)
    · refine s_ret (v := optV (methodDue wide l ahead)) (ev_is ev_c ?_) fun H3 x3 => q H3 ((x1.trans x2).trans x3)
      unfold methodDue
      rw [if_neg (by rw [e1]; decide), if_pos e]; rfl
    have x12 := x1.trans x2
    refine q_when (b := (decide (S l.m.name = "<init>") && !decide (lastV l.m.desc = "V")) || (decide (S l.m.name = "<clinit>") && !decide (S l.m.desc = "()V"))) (et_or (et_and (et_test (ev_eqSV (ev_var rfl))) fun _ => et_test (ev_neSV (z1 := lastV l.m.desc) (ev_op (ev_var rfl) (ev_un ev_c ru_neg) (rv_ixS dm.2.1 dm.2.2.2.1)))) fun _ => et_and (et_test (ev_eqSV (ev_var rfl))) fun _ => et_test (ev_neSV (ev_var rfl))) (fun e H3 x3 => ?_) (fun e3 H3 x3 => ?_)
    · refine s_ret (v := optV (methodDue wide l ahead)) (ev_is ev_c ?_) fun H4 x4 => q H4 ((x12.trans x3).trans x4)
      unfold methodDue
      rw [if_neg (by rw [e1]; decide), if_neg (by rw [e2]; decide), if_pos e]; rfl
    have x13 := x12.trans x3
    refine q_when (b := ahead.any (sameL l)) (et_test ?_) (fun e H4 x4 => ?_) (fun e4 H4 x4 => ?_)
    · have hc := fun (σ2 : L2.St) (te : TE) (hv : σ2[2]? = some (some (.ref p))) (hw) (ht1) (he1) => el_lcL (K := K) (H := H3) (σ := σ2) (te := te) (t := tTest (tOp (rEqD K) (tSl (rSlT K) (tVar 10) tNoPart (tPart (tC (.int 2)))) (tSl (rSlT K) (tVar 1) tNoPart (tPart (tC (.int 2)))))) (tl := tVar 2) (a := p) (j := 10) (vs := [10]) (xs := xs) (fun i => (ahead[i]?).any (sameL l)) (fun i => xs.getD i .non) (ev_var hv) (sq_of (x13 _ _ hp)) (by omega) hw ht1 he1
      refine ev_opLL (xs := given xs.length (fun i => (ahead[i]?).any (sameL l)) fun i => xs.getD i .non) (ys := []) (z := .bl (ahead.any (sameL l))) (hc _ _ rfl (fun x => rfl) (fun i x H9 x9 hx => ?_) (fun i x H9 x9 hx _ => ?_)) (el_lst ea_nil (by decide)) ?_
      · obtain ⟨o, ho, hmem⟩ := hM.at hx
        obtain ⟨t2, fl2, rfl, ht2, hfl2⟩ := hmem
        rw [ho]
        refine et_test (ev_opUU (xs := [.str (S o.m.name), .str (S o.m.desc)]) (ys := [.str (S l.m.name), .str (S l.m.desc)]) (eu_pair5 (ev_var rfl) ((x13.trans x9) _ _ ht2)) (eu_pair5 (ev_var rfl) ((x13.trans x9) _ _ ht)) fun r1 r2 H10 h10 g10 _ => fun H11 e11 Q' q' => ?_)
        have oo := okA o (List.mem_of_getElem? ho)
        refine ⟨dP o.m.name o.m.desc, dP l.m.name l.m.desc, .tup (st_of (e11 _ _ h10)) (.cons (.str _) (.cons (.str _) .nil)), .tup (st_of (e11 _ _ g10)) (.cons (.str _) (.cons (.str _) .nil)), dP_shaped oo.1 oo.2, dP_shaped ok.1 ok.2, ?_⟩
        rw [dP_eqv]
        exact q' H11 (Ex.refl H11)
      · have e9 : xs.getD i .non = x := by rw [List.getD_eq_getElem?_getD, hx]; rfl
        rw [e9]
        exact ev_var rfl
      · intro r1 r2 H9 h9 g9 x9 H10 x10 Q' q'
        refine ⟨r1, r2, _, rfl, rfl, x10 _ _ h9, x10 _ _ g9, ?_⟩
        rw [given_empty, Bool.not_not, hM.len, any_atL]
        exact q' H10 (Ex.refl H10)
    · refine s_ret (v := optV (methodDue wide l ahead)) (ev_is ev_c ?_) fun H5 x5 => q H5 ((x13.trans x4).trans x5)
      unfold methodDue
      rw [if_neg (by rw [e1]; decide), if_neg (by rw [e2]; decide), if_neg (by rw [e3]; decide), if_pos e]; rfl
    have x14 := x13.trans x4
    refine q_when (b := !decide (V.bl (decide (l.m.x = .non)) = V.bl (decide (("abstract" : Str) ∈ l.m.ws) || decide (("native" : Str) ∈ l.m.ws)))) (et_test (ev_bsym (ev_isNon (ev_var rfl)) (ev_orV (ev_inW ev_c (ev_var rfl) (x14 _ _ hfl)) fun _ => ev_inW ev_c (ev_var rfl) (x14 _ _ hfl)))) (fun e H5 x5 => ?_) (fun e5 H5 x5 => ?_)
    · refine s_ret (v := optV (methodDue wide l ahead)) (ev_is ev_c ?_) fun H6 x6 => q H6 ((x14.trans x5).trans x6)
      unfold methodDue
      rw [if_neg (by rw [e1]; decide), if_neg (by rw [e2]; decide), if_neg (by rw [e3]; decide), if_neg (by rw [e4]; decide), if_pos e]; rfl
    have x15 := x14.trans x5
    -- inner
    refine q_asg (v := .str (innerS (S l.m.desc))) (ev_slSS (ev_var rfl) (eo_some ev_c) (eo_some (ev_sindex (ev_var rfl) ev_c dm.1)) dm.2.1) fun H6 x6 => ?_
    have x16 := x15.trans x6
    -- many
    refine q_asgAny (rd_op (fun pd hpd => ⟨upd_same, [(Sum.inr "[JLIJ;", .int 2), (Sum.inr "[[LA;J", .int 3)], rfl, by decide, pd, rfl, .inl ⟨_, .inl upd_same⟩, _, rfl, ?_⟩))
    refine rd_ev (v := .int (lenJ (innerS (S l.m.desc)))) (ev_op (ev_lenSS (ev_var rfl) dm.2.2.1) (ev_scount (ev_var rfl) ev_c) rv_I0) fun H8 x8 => ⟨_, DGet.k (k := Sum.inr (innerS (S l.m.desc))) (x8 _ _ upd_same), ?_⟩
    have e8 : (valV (mergeK [] [(Sum.inr ("[JLIJ;" : Str), V.int 2), (Sum.inr ("[[LA;J" : Str), V.int 3)]) (Sum.inr (innerS (S l.m.desc)))).getD (.int (lenJ (innerS (S l.m.desc)))) = .int (manyS (S l.m.desc)) := by
      unfold manyS
      have e0 : mergeK [] [(Sum.inr ("[JLIJ;" : Str), V.int 2), (Sum.inr ("[[LA;J" : Str), V.int 3)] = [(Sum.inr ("[JLIJ;" : Str), V.int 2), (Sum.inr ("[[LA;J" : Str), V.int 3)] := rfl
      rw [e0]
      by_cases h1 : innerS (S l.m.desc) = "[JLIJ;"
      · rw [if_pos h1, valV_pos (by rw [h1])]; rfl
      · rw [if_neg h1, valV_neg (fun z => h1 (Sum.inr.inj z).symm)]
        by_cases h2 : innerS (S l.m.desc) = "[[LA;J"
        · rw [if_pos h2, valV_pos (by rw [h2])]; rfl
        · rw [if_neg h2, valV_neg (fun z => h2 (Sum.inr.inj z).symm)]; rfl
    rw [e8]
    have y8 : Ex H6 H8 := fun b o hb => x8 _ _ (by rw [upd_ne (ne_of_none hb hpd), upd_ne (ne_of_none hb hpd)]; exact hb)
    have x18 := x16.trans y8
    refine rd_ev (ev_intB (ev_niW ev_c (ev_var rfl) (x18 _ _ hfl))) fun H9 x9 => ⟨_, _, rfl, rfl, ?_⟩
    have x19 := x18.trans x9
    refine s_ret (v := optV (methodDue wide l ahead)) (ev_if (b := l.code && decide (l.high < manyS (S l.m.desc) + (if (!decide (("static" : Str) ∈ l.m.ws)) = true then 1 else 0))) (et_and (et_B (ev_isCode cu (ev_var rfl) (hok.1.ex x19))) fun _ => et_test (ev_op (ev_var rfl) (ev_var rfl) rv_I0)) (fun e => ev_is ev_c ?_) (fun e => ev_is ev_c ?_)) fun H10 x10 => q H10 (x19.trans x10)
    · unfold methodDue
      rw [if_neg (by rw [e1]; decide), if_neg (by rw [e2]; decide), if_neg (by rw [e3]; decide), if_neg (by rw [e4]; decide), if_neg (by rw [e5]; decide), if_pos e]; rfl
    · unfold methodDue
      rw [if_neg (by rw [e1]; decide), if_neg (by rw [e2]; decide), if_neg (by rw [e3]; decide), if_neg (by rw [e4]; decide), if_neg (by rw [e5]; decide), if_neg (by rw [e]; decide)]; rfl
end
end N8

set_option maxHeartbeats 4000000
namespace N8
open PySem PySem.Spec PyProof.Rows L2 Evl
open SX (S)
abbrev sLawDue : Stmt := topS 112
theorem scLawDue : FnScope ["plan", "due", "is_wide", "k", "field", "word", "method"] ["plan"] (L2.defScope sLawDue) := ⟨rfl, rfl, rfl, by decide +kernel, rfl, by decide +kernel, by decide +kernel⟩

section
variable {K : PySem.W.Frag} {σ : L2.St} {H H' : Hp} {te ta tb tl : TE} {t : TT} {r : R2} {v x : V} {D : Ends} {tz tu : TS} {Q : VK}
/-- for i, x in enumerate(a list) -/
theorem for_enL {a : Addr} {xs : List V} {g : TG} (Pv : Nat → L2.St → Hp → Prop) (h0 : Pv 0 σ H) (hl : ∀ i σ H, Pv i σ H → SqL K H a xs)
    (hs : ∀ i x σ H T, xs[i]? = some x → Pv i σ H → H T = none → g (.ref T) σ (upd H T (.tup [.int (i : Nat), x])) fun σ2 H2 => tu { D with nx := Pv (i + 1), ct := Pv (i + 1), bk := D.nx } σ2 H2) (hd : ∀ σ H, Pv xs.length σ H → D.nx σ H) :
    ∃ W : Nat → Nat → L2.St → Hp → Prop, (∃ m, W 0 m σ H) ∧ ∀ i m σ H, W i m σ H → ((Ite K a).stop i H ∧ D.nx σ H) ∨ ((Ite K a).go i H ∧ ∃ N : L2.St → Hp → Prop, (∀ σ' H', N σ' H' → ∃ m', m' < m ∧ W (i + 1) m' σ' H') ∧ ∀ x H', (Ite K a).yld i H x H' → g x σ H' fun σ2 H2 => tu { D with nx := N, ct := N, bk := D.nx } σ2 H2) := by
  refine ⟨fun i m σ H => m = xs.length - i ∧ i ≤ xs.length ∧ Pv i σ H, ⟨_, rfl, Nat.zero_le _, h0⟩, fun i m σ H hW => ?_⟩
  obtain ⟨em, hi, p⟩ := hW
  have q := hl i σ H p
  by_cases hlt : i < xs.length
  · refine .inr ⟨⟨xs, xs[i], q, List.getElem?_eq_getElem hlt⟩, Pv (i + 1), fun σ' H' p' => ⟨xs.length - (i + 1), by omega, rfl, hlt, p'⟩, fun v H' y => ?_⟩
    obtain ⟨T, x, e1, e2, e3, e4⟩ := y
    subst e1 e3
    exact hs i x σ H T (e4 xs q) p e2
  · obtain rfl : i = xs.length := by omega
    exact .inl ⟨⟨xs, q, Nat.le_refl _⟩, hd σ H p⟩
theorem q_forEnL {a : Addr} {xs : List V} {tl : TE} {j k : Nat} (h : Ev tl σ H (.ref a)) (hx : H a = some (.lst xs)) (Pv : Nat → L2.St → Hp → Prop) (h0 : ∀ H1, Ex H H1 → Pv 0 σ H1) (hl : ∀ i σ' H', Pv i σ' H' → Ex H H')
    (hs : ∀ i x σ' H' H2, xs[i]? = some x → Pv i σ' H' → Ex H' H2 → tu { D with nx := Pv (i + 1), ct := Pv (i + 1), bk := tz D } ((σ'.set j (some (.int (i : Nat)))).set k (some x)) H2) (hd : ∀ σ' H', Pv xs.length σ' H' → tz D σ' H') :
    tSeq (tFor (iEnum K (tCons tl tNil)) (gTup K 2 (gCons (gName j) (gCons (gName k) gNil))) tu) tz D σ H :=
  h H (Ex.refl H) _ fun H1 e => ⟨a, xs, rfl, sq_of (e _ _ hx), for_enL (D := { D with nx := tz D }) Pv (h0 H1 e) (fun i σ' H' p => sq_of (hl i σ' H' p _ _ hx)) (fun i x σ' H' T hi hp hT => tup2 (st_of upd_same) (hs i x σ' H' _ hi hp (Ex.new hT))) hd⟩
end
theorem cutV_to (xs : List V) (i : Nat) : cutV xs none (some (i : Int)) = xs.take i := by
  unfold cutV
  rw [HT.sIx_none, HT.sIx_nat, List.drop_zero, Nat.sub_zero]
  by_cases h : i ≤ xs.length
  · rw [Nat.min_eq_left h]
  · rw [Nat.min_eq_right (by omega), List.take_length, List.take_of_length_le (by omega)]
theorem Mems.take {R : V → Mem → Prop} {xs : List V} {ms : List Mem} (h : Mems R xs ms) : ∀ i : Nat, Mems R (xs.take i) (ms.take i) := by
  induction h with
  | nil => intro i; rw [List.take_nil, List.take_nil]; exact .nil
  | cons a _ ih =>
    intro i
    cases i with
    | zero => exact .nil
    | succ i => exact .cons a (ih i)
theorem Lms.take {R : V → LM → Prop} {xs : List V} {ms : List LM} (h : Lms R xs ms) : ∀ i : Nat, Lms R (xs.take i) (ms.take i) := by
  induction h with
  | nil => intro i; rw [List.take_nil, List.take_nil]; exact .nil
  | cons a _ ih =>
    intro i
    cases i with
    | zero => exact .nil
    | succ i => exact .cons a (ih i)
def wideL (d : CD) : Bool := decide (("interface" : Str) ∈ d.ws)
def lfW (wide : Bool) (ms : List Mem) (i : Nat) : Option Str := match ms[i]? with
  | none => none
  | some m => fieldDue wide m (ms.take i)
def lmW (wide : Bool) (ls : List LM) (i : Nat) : Option Str := match ls[i]? with
  | none => none
  | some l => methodDue wide l (ls.take i)
def lawDue (d : CD) (ls : List LM) : Due3 := match classDue d with
  | some (w, k) => some (w, "class", k)
  | none => match firstDue "field" (lfW (wideL d) d.fields) d.fields.length 0 with
    | some z => some z
    | none => firstDue "method" (lmW (wideL d) ls) ls.length 0
theorem firstDue_next {part : Str} {f : Nat → Option Str} {n i : Nat} (h : i < n) : firstDue part f (n - i) i = match f i with
    | some z => some (z, part, (i : Int))
    | none => firstDue part f (n - (i + 1)) (i + 1) := by
  obtain ⟨k, hk⟩ : ∃ k, n - i = k + 1 := ⟨n - i - 1, by omega⟩
  rw [hk, show n - (i + 1) = k by omega]
  rfl
def spLDue (K : PySem.W.Frag) : Sp := fun vs H Q _ => ∃ (v : V) (d : CD) (ls : List LM), vs = [v] ∧ PlanF K H v d ls ∧ Flags d.ws ∧ d.faces.length ≤ 100 ∧ (∀ m ∈ d.fields, FdOk m) ∧ (∀ l ∈ ls, LmOk K H l) ∧ d.fields.length ≤ 4 ∧ ls.length ≤ 4 ∧ RetD (lawDue d ls) H Q
def DueV (o : Option (Str × Int)) (dv : V) (H H' : Hp) : Prop := (o = none ∧ dv = .non) ∨ ∃ w k r, o = some (w, k) ∧ dv = .ref r ∧ H r = none ∧ H' r = some (.tup [.str w, .str "class", .int k])
theorem DueV.imp {o : Option (Str × Int)} {dv : V} {H0 H H' H2 : Hp} (h : DueV o dv H H') (e0 : Ex H0 H) (e : Ex H' H2) : DueV o dv H0 H2 := by
  rcases h with h | ⟨w, k, r, h1, h2, h3, h4⟩
  · exact .inl h
  · exact .inr ⟨w, k, r, h1, h2, fresh_back e0 h3, e _ _ h4⟩
theorem retDue_of {o : Option (Str × Int)} {H : Hp} {Q : VK} (h : ∀ dv H2, Ex H H2 → DueV o dv H H2 → Q dv H2) : RetDue o H Q := by
  cases o with
  | none => exact fun H2 e => h _ H2 e (.inl ⟨rfl, rfl⟩)
  | some z => exact fun q H2 hq e h2 => h _ H2 e (.inr ⟨_, _, q, rfl, rfl, hq, h2⟩)
theorem con3_of {x : V} (h : ConstOk x) : x = .non ∨ (∃ z, x = .str z) ∨ ∃ i, x = .int i := by
  rcases h with h | ⟨i, h, _⟩ | ⟨l, h, _⟩
  · exact .inl h
  · exact .inr (.inr ⟨i, h⟩)
  · exact .inr (.inl ⟨_, h⟩)
theorem LmOk.ex {K : PySem.W.Frag} {H H' : Hp} {l : LM} (h : LmOk K H l) (e : Ex H H') : LmOk K H' l := ⟨h.1.ex e, h.2⟩
section
variable {P : Program} {w : World} {K : PySem.W.Frag} {mg : Str → Option Value} {base : Heap}
theorem ok_lawDue {f : Addr} {fd : FuncData} (F : FnP K "_law_due" sLawDue f fd) (B : Bt mg) (c_law_class_due : Cl P w K mg base L2.CX0 1 "_law_class_due" ["plan"] spClassDue) (c_law_field_due : Cl P w K mg base L2.CX0 2 "_law_field_due" ["is_wide", "field", "ahead"] spFieldDue)
    (c_law_method_due : Cl P w K mg base L2.CX0 3 "_law_method_due" ["is_wide", "method", "ahead"] (spMethDue K)) : FnOk P w K mg base L2.CX0 4 f fd ["plan"] (spLDue K) := by
  refine F.ok scLawDue (fun vs H Q E h => ?_) (fun cdv A outer s H vs Q E hr h => ?_)
  · obtain ⟨v, d, ls, rfl, _⟩ := h
    rfl
  · obtain ⟨v, d, ls, rfl, ⟨t, pi, pw, pf, pm, xf, xm, rfl, ht, hpi, hpw, hpf, hMf, lenf, hpm, hMm, lenm, hdm, hcd⟩, hF, hfl, hfd, hlm, l1, l2, q⟩ := h
    refine ⟨_, PSs.nox (pss_cons (ps_par (i := 1) (j := 2) rfl scLawDue.nd rfl rfl (by decide) rfl rfl (pa_cons (pe_cl c_law_class_due hr (by decide) (by rfl) (pa_cons (pv 0) pa_nil)) (pa_cons (pe_cmpR op_in_seq pe_str (pe_ix ix_tup (pv 0) pe_int (fun _ _ => rfl)) rfl) pa_nil)) rfl)
      (pss_cons (ps_if (pt_cmpR op_notN (pv 1) pe_non (nomark _)) (pss_one (ps_ret (pv 1))) pss_nil)
      (pss_cons (ps_for PassesOwn.never rfl (pi_enum (by rfl) B.enumerate (pa_cons (pe_ix ix_tup (pv 0) pe_int (fun _ _ => rfl)) pa_nil)) (pg_tup rfl (pgs_cons (pg_name (i := 3) scLawDue.nd rfl (.inl rfl)) (pgs_cons (pg_name (i := 4) scLawDue.nd rfl (.inl rfl)) pgs_nil))) (pss_cons (ps_set (i := 5) scLawDue.nd rfl (.inl rfl) (pe_cl c_law_field_due hr (by decide) (by rfl) (pa_cons (pv 2) (pa_cons (pv 4) (pa_cons (pe_slice sl_list (pe_ix ix_tup (pv 0) pe_int (fun _ _ => rfl)) po_none (po_some (pv 3))) pa_nil)))))
      (pss_one (ps_if (pt_cmpR op_notN (pv 5) pe_non (nomark _)) (pss_one (ps_ret (pe_tup (pa_cons (pv 5) (pa_cons pe_str (pa_cons (pv 3) pa_nil)))))) pss_nil))))
      (pss_cons (ps_for PassesOwn.never rfl (pi_enum (by rfl) B.enumerate (pa_cons (pe_ix ix_tup (pv 0) pe_int (fun _ _ => rfl)) pa_nil)) (pg_tup rfl (pgs_cons (pg_name (i := 3) scLawDue.nd rfl (.inl rfl)) (pgs_cons (pg_name (i := 6) scLawDue.nd rfl (.inl rfl)) pgs_nil))) (pss_cons (ps_set (i := 5) scLawDue.nd rfl (.inl rfl) (pe_cl c_law_method_due hr (by decide) (by rfl) (pa_cons (pv 2) (pa_cons (pv 6) (pa_cons (pe_slice sl_list (pe_ix ix_tup (pv 0) pe_int (fun _ _ => rfl)) po_none (po_some (pv 3))) pa_nil)))))
      (pss_one (ps_if (pt_cmpR op_notN (pv 5) pe_non (nomark _)) (pss_one (ps_ret (pe_tup (pa_cons (pv 5) (pa_cons pe_str (pa_cons (pv 3) pa_nil)))))) pss_nil))))
      (pss_one (ps_ret pe_non)))))), ?_⟩
    -- due, is_wide
    refine q_mid (fun σ' H' => ∃ dv, σ' = [some (.ref t), some dv, some (.bl (wideL d)), none, none, none, none] ∧ Ex H H' ∧ DueV (classDue d) dv H H') (fun σ' H' hP => ?_) (fun k => ?_)
    rotate_left
    · refine rd_seq (show tPar _ _ _ _ _ _ from rd_cons (rd_call (rd_cons (rd_ev (ev_var rfl) fun H1 x1 => rd_nil ⟨_, d, rfl, ⟨t, pi, pw, pf, pm, rfl, x1 _ _ ht, x1 _ _ hpi, x1 _ _ hpw⟩, hF, hfl, retDue_of fun dv H2 x2 hdv => ?_⟩))))
      have x12 := x1.trans x2
      exact rd_cons (rd_ev (ev_inW ev_c (ev_op (ev_var rfl) ev_c (rv_ixT (st_of (x12 _ _ ht)) rfl)) (x12 _ _ hpw)) fun H3 x3 => rd_nil ⟨dv, _, rfl, k _ _ ⟨dv, rfl, x12.trans x3, hdv.imp x1 x3⟩⟩)
    obtain ⟨dv, rfl, x1, hdv⟩ := hP
    refine q_when (b := !decide (dv = .non)) (et_test fun H1 e Q' q' => ⟨dv, rfl, rfl, q' H1 (Ex.refl H1)⟩) (fun e H2 x2 => ?_) (fun e H2 x2 => ?_)
    · rcases hdv with ⟨h1, rfl⟩ | ⟨w0, k0, r, h1, rfl, h3, h4⟩
      · simp at e
      · refine s_ret (ev_var rfl) fun H3 x3 => ?_
        unfold lawDue at q
        rw [h1] at q
        exact q r H3 h3 ((x1.trans x2).trans x3) ((x2.trans x3) _ _ h4)
    have e1 : classDue d = none := by
      rcases hdv with ⟨h1, _⟩ | ⟨w0, k0, r, _, rfl, _⟩
      · exact h1
      · simp at e
    unfold lawDue at q
    rw [e1] at q
    dsimp only at q
    have x2 := x1.trans x2
    clear hdv e
    -- fields
    refine q_forEnL (xs := xf) (ev_op (ev_var rfl) ev_c (rv_ixT (st_of (x2 _ _ ht)) rfl)) (x2 _ _ hpf) (fun i σ' H' => Ex H2 H' ∧ firstDue "field" (lfW (wideL d) d.fields) d.fields.length 0 = firstDue "field" (lfW (wideL d) d.fields) (d.fields.length - i) i ∧ i ≤ d.fields.length ∧ ∃ v3 v4 v5, σ' = [some (.ref t), some dv, some (.bl (wideL d)), v3, v4, v5, none])
      (fun H3 x3 => ⟨x3, rfl, Nat.zero_le _, none, none, none, rfl⟩) (fun i σ' H' hP => hP.1) (fun i x σ' H' H3 hx hP x3 => ?_) (fun σ' H' hP => ?_)
    · obtain ⟨e, ep, hi, v3, v4, v5, rfl⟩ := hP
      obtain ⟨m, hm, hk⟩ := hMf.at hx
      have hil : i < d.fields.length := (List.getElem?_eq_some_iff.mp hm).1
      have E3 : Ex H H3 := (x2.trans e).trans x3
      have hmo := hfd m (List.mem_of_getElem? hm)
      have e0 : lfW (wideL d) d.fields i = fieldDue (wideL d) m (d.fields.take i) := by
        unfold lfW
        rw [hm]
      have hlf : xf.length = d.fields.length := hMf.len
      refine q_asgAny (rd_call (rd_cons (rd_ev (ev_var rfl) fun H4 x4 => rd_cons (rd_ev (ev_var rfl) fun H5 x5 => rd_cons ((el_sl (K := K) (lo := none) (hi := some (i : Int)) (ev_op (ev_var rfl) ev_c (rv_ixT (st_of ((E3.trans (x4.trans x5)) _ _ ht)) rfl)) eo_none (eo_some (ev_var rfl)) (sq_of ((E3.trans (x4.trans x5)) _ _ hpf))) H5 (Ex.refl H5) _ fun ps H6 hps x6 h6 => rd_nil ?_)))))
      have E6 : Ex H H6 := (E3.trans (x4.trans x5)).trans x6
      rw [cutV_to] at h6
      refine ⟨wideL d, x, ps, m, xf.take i, d.fields.take i, rfl, hk.ex E6, h6, (hMf.take i).imp fun _ _ z => z.ex E6, by rw [List.length_take]; omega, hmo.2.2.1, hmo.txt, fun o ho => (hfd o (List.mem_of_mem_take ho)).txt, con3_of hmo.2.2.2, fun H7 x7 => ?_⟩
      rw [ep, firstDue_next hil, e0] at q
      refine s_when (b := (fieldDue (wideL d) m (d.fields.take i)).isSome) (et_test (ev_isNotO (ev_var rfl))) (fun e1 H8 x8 => ?_) (fun e1 H8 x8 => ⟨((((e.trans x3).trans (x4.trans x5)).trans x6).trans x7).trans x8, ?_, by omega, _, _, _, rfl⟩)
      · obtain ⟨z, hz⟩ := Option.isSome_iff_exists.mp e1
        rw [hz] at q ⊢
        exact s_retU (eu_tup (vs := [.str z, .str "field", .int (i : Int)]) (ea_cons (ev_var rfl) (ea_cons ev_c (ea_cons (ev_var rfl) ea_nil))) (by show 3 ≤ 100000; decide)) fun r H9 hr9 x9 h9 => q r H9 (fresh_back ((E6.trans x7).trans x8) hr9) (((E6.trans x7).trans x8).trans x9) h9
      · rw [ep, firstDue_next hil, e0]
        cases hz : fieldDue (wideL d) m (d.fields.take i) with
        | none => rfl
        | some z => rw [hz] at e1; cases e1
    obtain ⟨e, ep, hi, v3, v4, v5, rfl⟩ := hP
    rw [hMf.len, Nat.sub_self] at ep
    rw [ep] at q
    change RetD (firstDue "method" (lmW (wideL d) ls) ls.length 0) H Q at q
    have x2 := x2.trans e
    clear e ep hi
    -- methods
    refine q_forEnL (xs := xm) (ev_op (ev_var rfl) ev_c (rv_ixT (st_of (x2 _ _ ht)) rfl)) (x2 _ _ hpm) (fun i σ2 H2 => Ex H' H2 ∧ firstDue "method" (lmW (wideL d) ls) ls.length 0 = firstDue "method" (lmW (wideL d) ls) (ls.length - i) i ∧ i ≤ ls.length ∧ ∃ v3 v5 v6, σ2 = [some (.ref t), some dv, some (.bl (wideL d)), v3, v4, v5, v6])
      (fun H3 x3 => ⟨x3, rfl, Nat.zero_le _, _, _, _, rfl⟩) (fun i σ' H' hP => hP.1) (fun i x σ' H'' H3 hx hP x3 => ?_) (fun σ' H'' hP => ?_)
    · obtain ⟨e, ep, hi, v3, v5, v6, rfl⟩ := hP
      obtain ⟨m, hm, hk⟩ := hMm.at hx
      have hil : i < ls.length := (List.getElem?_eq_some_iff.mp hm).1
      have E3 : Ex H H3 := (x2.trans e).trans x3
      have hmo := hlm m (List.mem_of_getElem? hm)
      have e0 : lmW (wideL d) ls i = methodDue (wideL d) m (ls.take i) := by
        unfold lmW
        rw [hm]
      have hlf : xm.length = ls.length := hMm.len
      refine q_asgAny (rd_call (rd_cons (rd_ev (ev_var rfl) fun H4 x4 => rd_cons (rd_ev (ev_var rfl) fun H5 x5 => rd_cons ((el_sl (K := K) (lo := none) (hi := some (i : Int)) (ev_op (ev_var rfl) ev_c (rv_ixT (st_of ((E3.trans (x4.trans x5)) _ _ ht)) rfl)) eo_none (eo_some (ev_var rfl)) (sq_of ((E3.trans (x4.trans x5)) _ _ hpm))) H5 (Ex.refl H5) _ fun ps H6 hps x6 h6 => rd_nil ?_)))))
      have E6 : Ex H H6 := (E3.trans (x4.trans x5)).trans x6
      rw [cutV_to] at h6
      refine ⟨wideL d, x, ps, m, xm.take i, ls.take i, rfl, hk.ex E6, hmo.ex E6, h6, (hMm.take i).imp fun _ _ z => z.ex E6, by rw [List.length_take]; omega, fun o ho => (hlm o (List.mem_of_mem_take ho)).txt, fun H7 x7 => ?_⟩
      rw [ep, firstDue_next hil, e0] at q
      refine s_when (b := (methodDue (wideL d) m (ls.take i)).isSome) (et_test (ev_isNotO (ev_var rfl))) (fun e1 H8 x8 => ?_) (fun e1 H8 x8 => ⟨((((e.trans x3).trans (x4.trans x5)).trans x6).trans x7).trans x8, ?_, by omega, _, _, _, rfl⟩)
      · obtain ⟨z, hz⟩ := Option.isSome_iff_exists.mp e1
        rw [hz] at q ⊢
        exact s_retU (eu_tup (vs := [.str z, .str "method", .int (i : Int)]) (ea_cons (ev_var rfl) (ea_cons ev_c (ea_cons (ev_var rfl) ea_nil))) (by show 3 ≤ 100000; decide)) fun r H9 hr9 x9 h9 => q r H9 (fresh_back ((E6.trans x7).trans x8) hr9) (((E6.trans x7).trans x8).trans x9) h9
      · rw [ep, firstDue_next hil, e0]
        cases hz : methodDue (wideL d) m (ls.take i) with
        | none => rfl
        | some z => rw [hz] at e1; cases e1
    · obtain ⟨e, ep, hi, v3, v5, v6, rfl⟩ := hP
      rw [hMm.len, Nat.sub_self] at ep
      rw [ep] at q
      exact s_ret ev_c fun H6 x6 => q H6 ((x2.trans e).trans x6)
end
end N8

set_option maxHeartbeats 4000000
namespace N8
open PySem PySem.Spec PyProof.Rows L2 Evl
open SX (S)
/-! ### the law's words are the program's -/
def subs : List Str → List (List Str)
  | [] => [[]]
  | x :: r => subs r ++ (subs r).map (x :: ·)
theorem filter_subs (p : Str → Bool) : ∀ l : List Str, l.filter p ∈ subs l
  | [] => List.mem_singleton.mpr rfl
  | x :: r => by
    rw [List.filter_cons]
    split
    · exact List.mem_append_right _ (List.mem_map.mpr ⟨_, filter_subs p r, rfl⟩)
    · exact List.mem_append_left _ (filter_subs p r)
theorem mem_ord {ws : List Str} (h : Flags ws) (x : Str) : x ∈ inOrder ws ↔ x ∈ ws := by
  unfold inOrder
  rw [List.mem_filter]
  exact ⟨fun z => of_decide_eq_true z.2, fun z => ⟨h.1 x z, decide_eq_true z⟩⟩
theorem ord_nodup (ws : List Str) : (inOrder ws).Nodup := flags9_nodup.filter _
theorem ord_perm {ws : List Str} (h : Flags ws) : (inOrder ws).Perm ws := (List.perm_ext_iff_of_nodup (ord_nodup ws) h.2.1).mpr fun x => mem_ord h x
theorem ord_subs (ws : List Str) : inOrder ws ∈ subs flags9 := filter_subs _ _
theorem ord_of_perm {ws vs : List Str} (h : ws.Perm vs) : inOrder ws = inOrder vs := by
  unfold inOrder
  congr 1
  funext x
  exact decide_eq_decide.mpr h.mem_iff
theorem in_ord {ws : List Str} (h : Flags ws) (x : Str) : decide (x ∈ ws) = decide (x ∈ inOrder ws) := decide_eq_decide.mpr (mem_ord h x).symm
theorem filt_nil (p : Str → Bool) (l : List Str) : decide (l.filter p = []) = !l.any p := by
  cases h : l.any p with
  | true =>
    obtain ⟨x, hx, hp⟩ := List.any_eq_true.mp h
    exact decide_eq_false fun e => by
      have : x ∈ l.filter p := List.mem_filter.mpr ⟨hx, hp⟩
      rw [e] at this; cases this
  | false => exact decide_eq_true (List.filter_eq_nil_iff.mpr fun x hx => by
      have := List.any_eq_false.mp h x hx
      exact this)
theorem any_ord {ws : List Str} (h : Flags ws) (p : Str → Bool) : ws.any p = (inOrder ws).any p := by
  cases e : (inOrder ws).any p with
  | true =>
    obtain ⟨x, hx, hp⟩ := List.any_eq_true.mp e
    exact List.any_eq_true.mpr ⟨x, (mem_ord h x).mp hx, hp⟩
  | false => exact List.any_eq_false.mpr fun x hx => List.any_eq_false.mp e x ((mem_ord h x).mpr hx)
theorem acc_ord {ws : List Str} (h : Flags ws) : accN ws = accN (inOrder ws) := by
  unfold accN
  congr 2
  funext x
  exact in_ord h x
theorem one_ord {ws : List Str} (h : Flags ws) (z : Str) (hz : inOrder [z] = [z]) : decide (ws = [z]) = decide (inOrder ws = [z]) := decide_eq_decide.mpr ⟨fun e => by rw [e]; exact hz, fun e => by
  have := ord_perm h
  rw [e] at this
  exact List.perm_singleton.mp this.symm⟩
/-! classes -/
def lcls (ws : List Str) : Bool := !decide (ws.filter (fun x => !decide (x ∈ four)) = []) || ((decide (("final" : Str) ∈ ws) && decide (("abstract" : Str) ∈ ws)) || (decide (("interface" : Str) ∈ ws) && !decide (("abstract" : Str) ∈ ws)))
theorem lcls_fin : ∀ w ∈ subs flags9, lcls w = !hcf w := by decide +kernel
theorem lcls_ord {ws : List Str} (h : Flags ws) : lcls ws = !hcf (inOrder ws) := by
  rw [← lcls_fin _ (ord_subs ws)]
  unfold lcls
  rw [filt_nil, filt_nil, any_ord h, in_ord h, in_ord h, in_ord h]
/-! fields' flags -/
def lfl1 (ws : List Str) : Bool := !decide (ws.filter (fun x => !decide (x ∈ five)) = []) || decide (accN ws > 1)
theorem lfl_fin : ∀ w ∈ subs flags9, ∀ wide ∈ [true, false], (lfl1 w || (wide && !decide (w = wideF))) = !hff wide w := by decide +kernel
theorem wide_ord {ws : List Str} (h : Flags ws) : decide (ws.Perm wide3) = decide (inOrder ws = wideF) := decide_eq_decide.mpr ⟨fun e => by rw [ord_of_perm e]; decide +kernel, fun e => by
  have := ord_perm h
  rw [e] at this
  exact this.symm.trans (by decide +kernel)⟩
theorem lfl_ord {ws : List Str} (h : Flags ws) (wide : Bool) : (lfl1 ws || (wide && !decide (ws.Perm wide3))) = !hff wide (inOrder ws) := by
  rw [← lfl_fin _ (ord_subs ws) wide (by cases wide <;> decide), wide_ord h]
  unfold lfl1
  rw [filt_nil, filt_nil, any_ord h, acc_ord h]
/-! methods' flags -/
theorem badF_fin : ∀ w ∈ subs flags9, ∀ wide ∈ [true, false], ∀ z ∈ nameS, badF wide z w = !hmf wide z w := by decide +kernel
theorem badF_ord {ws : List Str} (h : Flags ws) (wide : Bool) {z : Str} (hz : z ∈ nameS) : badF wide z ws = !hmf wide z (inOrder ws) := by
  rw [← badF_fin _ (ord_subs ws) wide (by cases wide <;> decide) z hz]
  unfold badF
  rw [filt_nil, filt_nil, filt_nil, filt_nil, any_ord h, any_ord h (fun x => decide (x ∈ (["protected", "final", "synchronized", "native"] : List Str))), acc_ord h, one_ord h "static" (by decide +kernel), in_ord h, in_ord h "abstract", in_ord h "public", in_ord h "private", (ord_perm h).length_eq]
/-! interfaces -/
theorem vs_inj {a b : List Nat} (h : N8.vs a = N8.vs b) : a = b := SX.S_inj (V.str.inj h)
theorem ah_any {α : Type} [DecidableEq α] {l : List α} {i : Nat} {x : α} (h : l[i]? = some x) : isAh l i = (l.take i).any fun y => decide (y = x) := by
  unfold isAh
  rw [h]
  congr 1
  funext y
  exact decide_eq_decide.mpr ⟨Option.some.inj, congrArg some⟩
theorem twice_ah (fs : List (List Nat)) : ∀ n i, i + n = fs.length → twiceAt fs n i = if true ∈ (List.range' i n).map (isAh fs) then some (i + idxT ((List.range' i n).map (isAh fs))) else none
  | 0, i, _ => by rw [if_neg (by intro z; cases z)]; rfl
  | n + 1, i, h => by
    have hi : i < fs.length := by omega
    have e1 : isAh fs i = decide (N8.vs (fs.getD i []) ∈ (fs.take i).map N8.vs) := by
      have e2 : fs[i]? = some (fs.getD i []) := by rw [List.getD_eq_getElem?_getD, List.getElem?_eq_getElem hi]; rfl
      rw [ah_any e2, Bool.eq_iff_iff, List.any_eq_true, decide_eq_true_iff]
      constructor
      · rintro ⟨y, hy, e⟩
        rw [← of_decide_eq_true e]
        exact List.mem_map.mpr ⟨y, hy, rfl⟩
      · intro h
        obtain ⟨y, hy, e⟩ := List.mem_map.mp h
        exact ⟨y, hy, decide_eq_true (vs_inj e)⟩
    have ih := twice_ah fs n (i + 1) (by omega)
    show (if decide (N8.vs (fs.getD i []) ∈ (fs.take i).map N8.vs) = true then some i else twiceAt fs n (i + 1)) = _
    rw [← e1, ih, List.range'_succ, List.map_cons]
    cases e : isAh fs i with
    | true => rw [if_pos rfl, if_pos List.mem_cons_self]; rfl
    | false =>
      rw [if_neg (by decide)]
      by_cases hm : true ∈ (List.range' (i + 1) n).map (isAh fs)
      · rw [if_pos hm, if_pos (List.mem_cons_of_mem _ hm)]
        show some _ = some (i + (idxT _ + 1))
        congr 1; omega
      · rw [if_neg hm, if_neg (fun z => by
          rcases List.mem_cons.mp z with z | z
          · cases z
          · exact hm z)]
theorem class_eq {d : CD} (h : Flags d.ws) : pClass d = (classDue d).map fun z => (z.1, ("class" : Str), z.2) := by
  unfold pClass classDue
  have e1 := lcls_ord h
  unfold lcls at e1
  rw [e1]
  by_cases c1 : (!hcf (inOrder d.ws)) = true
  · rw [if_pos c1, if_pos c1]; rfl
  rw [if_neg c1, if_neg c1]
  have e2 : (!decide (V.bl (decide (parV d.parent = .non)) = V.bl (decide (N8.vs d.name = .str "Object"))) || (decide (("interface" : Str) ∈ d.ws) && !decide (parV d.parent = .str "Object"))) = !hrp d := by
    unfold hrp
    rw [in_ord h]
    cases decide (V.bl (decide (parV d.parent = .non)) = V.bl (decide (N8.vs d.name = .str "Object"))) <;> cases decide (("interface" : Str) ∈ inOrder d.ws) <;> cases decide (parV d.parent = .str "Object") <;> rfl
  rw [e2]
  by_cases c2 : (!hrp d) = true
  · rw [if_pos c2, if_pos c2]; rfl
  rw [if_neg c2, if_neg c2, twice_ah d.faces _ 0 (by omega)]
  have e3 : ahL d.faces = (List.range' 0 d.faces.length).map (isAh d.faces) := by unfold ahL; rw [List.range_eq_range']
  rw [e3]
  split
  · rw [Nat.zero_add]; rfl
  · rfl
/-! fields -/
theorem same2_eq (o m : Mem) : same2 o m = decide (keyOf o = keyOf m) := by
  unfold same2 keyOf
  by_cases h1 : o.name = m.name
  · by_cases h2 : o.desc = m.desc
    · rw [h1, h2]; simp
    · rw [decide_eq_false h2, Bool.and_false, decide_eq_false (fun e => h2 (SX.S_inj (by simpa using (List.cons.inj (List.cons.inj e).2).1)))]
  · rw [decide_eq_false h1, Bool.false_and, decide_eq_false (fun e => h1 (SX.S_inj (List.cons.inj e).1))]
theorem ah_same {ms : List Mem} {i : Nat} {m : Mem} (h : ms[i]? = some m) : isAh (ms.map keyOf) i = (ms.take i).any fun o => same2 o m := by
  have e : (ms.map keyOf)[i]? = some (keyOf m) := by rw [List.getElem?_map, h]; rfl
  rw [ah_any e, ← List.map_take, List.any_map]
  congr 1
  funext o
  show decide (keyOf o = keyOf m) = _
  rw [same2_eq]
theorem fd_kinds : ∀ z ∈ fdescs, (z ∈ ints5 ∧ ¬ z = "LString;" ∧ (!decide (z ∈ letters6)) = false ∧ half z = 2147483648) ∨ z = "J" ∨ z = "LString;" ∨ (¬ z = "LString;" ∧ (!decide (z ∈ letters6)) = true ∧ ¬ z ∈ ints5 ∧ ¬ z = "J") := by decide +kernel
theorem const_eq {m : Mem} (h : FdOk m) : (!decide (m.x = .non) && (!decide (("static" : Str) ∈ m.ws) || !fitsB (S m.desc) m.x)) = !hrc (S m.desc) (inOrder m.ws) m.x := by
  obtain ⟨_, ⟨z, hz, ed⟩, hf, hx⟩ := h
  rw [ed, S_toL, in_ord hf]
  rcases hx with e | ⟨i, e, h1, h2⟩ | ⟨l, e, _, _⟩
  · rw [e]; rfl
  · rw [e]
    unfold hrc
    rw [if_neg (by intro z; cases z), decide_eq_false (by intro z; cases z)]
    cases decide (("static" : Str) ∈ inOrder m.ws) with
    | false => rfl
    | true =>
      show (!fitsI z i) = !(if decide (z ∈ ints5) = true then intIn (.int i) (-2147483648) 2147483647 else if z = "J" then isIntV (.int i) else decide (z = "LString;") && isStrV (.int i))
      congr 1
      unfold fitsI
      rcases fd_kinds z hz with ⟨k1, k2, k3, k4⟩ | rfl | rfl | ⟨k1, k2, k3, k4⟩
      · rw [if_neg k2, if_neg (by rw [k3]; decide), if_pos (decide_eq_true k1), k4]
        show (decide (0 - 2147483648 ≤ i) && decide (i < 2147483648)) = (decide (-2147483648 ≤ i) && decide (i ≤ 2147483647))
        rw [Bool.eq_iff_iff]
        simp only [Bool.and_eq_true, decide_eq_true_iff]
        omega
      · rw [if_neg (by decide), if_neg (by decide), if_neg (by decide), if_pos rfl]
        show (decide (0 - half "J" ≤ i) && decide (i < half "J")) = true
        have e : half "J" = 9223372036854775808 := by decide +kernel
        rw [e, Bool.and_eq_true, decide_eq_true_iff, decide_eq_true_iff]
        omega
      · rw [if_pos rfl, if_neg (by decide), if_neg (by decide)]
        exact (Bool.and_false _).symm
      · rw [if_neg k1, if_pos k2, if_neg (by rw [decide_eq_false k3]; decide), if_neg k4]
        exact (Bool.and_false _).symm
  · rw [e]
    unfold hrc
    rw [if_neg (by intro z; cases z), decide_eq_false (by intro z; cases z)]
    cases decide (("static" : Str) ∈ inOrder m.ws) with
    | false => rfl
    | true =>
      show (!decide (z = "LString;")) = !(if decide (z ∈ ints5) = true then intIn (.str (S l)) (-2147483648) 2147483647 else if z = "J" then isIntV (.str (S l)) else decide (z = "LString;") && isStrV (.str (S l)))
      congr 1
      rcases fd_kinds z hz with ⟨k1, k2, k3, k4⟩ | rfl | rfl | ⟨k1, k2, k3, k4⟩
      · rw [if_pos (decide_eq_true k1), decide_eq_false k2]; rfl
      · rw [if_neg (by decide), if_pos rfl]; rfl
      · rw [if_neg (by decide), if_neg (by decide)]; rfl
      · rw [if_neg (by rw [decide_eq_false k3]; decide), if_neg k4]
        exact (Bool.and_true _).symm
theorem field_eq {wide : Bool} {ms : List Mem} {i : Nat} {m : Mem} (hm : ms[i]? = some m) (h : FdOk m) : fieldDue wide m (ms.take i) = fldW wide ms i m := by
  have hf := h.2.2.1
  have e1 := lfl_ord hf wide
  have e2 := ah_same hm
  have e3 := const_eq h
  unfold fieldDue fldW
  rw [e3, ← e2, ← e1]
  unfold lfl1
  generalize (!decide (m.ws.filter (fun x => !decide (x ∈ five)) = []) || decide (accN m.ws > 1)) = b1
  generalize (wide && !decide (m.ws.Perm wide3)) = b2
  cases b1 <;> cases b2 <;> rfl
/-! methods -/
theorem res_fin : ∀ z ∈ nameS, ∀ d ∈ descs7, ((decide (z = "<init>") && !decide (lastV d = "V")) || (decide (z = "<clinit>") && !decide (S d = "()V"))) = !hrr z d (lastL d) := by decide +kernel
theorem many_fin : ∀ d ∈ descs7, placesL (psL d).dropLast = manyS (S d) := by decide +kernel
theorem method_eq {K : PySem.W.Frag} {H : Hp} {wide : Bool} {ls : List LM} {i : Nat} {l : LM} (hm : ls[i]? = some l) (h : LmOk K H l) : methodDue wide l (ls.take i) = wordOf wide (isAh (ls.map fun (l : LM) => keyOf l.m) i) l := by
  obtain ⟨_, ⟨z, hz, en⟩, hd, hf, _⟩ := h
  have eS : S l.m.name = z := by rw [en, S_toL]
  have e1 := badF_ord hf wide hz
  have e2 := res_fin z hz _ hd
  have e3 : isAh (ls.map fun (l : LM) => keyOf l.m) i = (ls.take i).any (sameL l) := by
    have e := ah_same (ms := ls.map (·.m)) (i := i) (m := l.m) (by rw [List.getElem?_map, hm]; rfl)
    rw [List.map_map, ← List.map_take, List.any_map] at e
    exact e
  have e4 : (!decide (V.bl (decide (l.m.x = .non)) = V.bl (decide (("abstract" : Str) ∈ l.m.ws) || decide (("native" : Str) ∈ l.m.ws)))) = !hct (inOrder l.m.ws) l.m.x := by
    unfold hct
    rw [in_ord hf, in_ord hf "native"]
  have e5 : (l.code && decide (l.high < manyS (S l.m.desc) + (if (!decide (("static" : Str) ∈ l.m.ws)) = true then 1 else 0))) = !roomB (psL l.m.desc) (inOrder l.m.ws) l.code l.high := by
    unfold roomB
    rw [many_fin _ hd, in_ord hf]
    generalize decide (("static" : Str) ∈ inOrder l.m.ws) = b
    cases l.code with
    | false => rfl
    | true =>
      cases b with
      | true =>
        show decide (l.high < manyS (S l.m.desc) + 0) = !decide (manyS (S l.m.desc) + 0 ≤ l.high)
        rw [Bool.eq_iff_iff]; simp; try omega
      | false =>
        show decide (l.high < manyS (S l.m.desc) + 1) = !decide (manyS (S l.m.desc) + 1 ≤ l.high)
        rw [Bool.eq_iff_iff]; simp; try omega
  unfold methodDue wordOf
  rw [e4, e5, e3, eS, e1, e2, Bool.and_comm wide]
theorem firstDue_congr {part : Str} {f g : Nat → Option Str} {N : Nat} (h : ∀ i, i < N → f i = g i) : ∀ n i, i + n = N → firstDue part f n i = firstDue part g n i
  | 0, _, _ => rfl
  | n + 1, i, e => by
    show (match f i with | some z => some (z, part, (i : Int)) | none => firstDue part f n (i + 1)) = (match g i with | some z => some (z, part, (i : Int)) | none => firstDue part g n (i + 1))
    rw [h i (by omega), firstDue_congr h n (i + 1) (by omega)]
theorem due_eq {K : PySem.W.Frag} {H : Hp} {d : CD} {ls : List LM} (hF : Flags d.ws) (hfd : ∀ m ∈ d.fields, FdOk m) (hlm : ∀ l ∈ ls, LmOk K H l) : lawDue d ls = pFault d ls := by
  have ew : isWide d = wideL d := (in_ord hF _).symm
  have e1 : firstDue "field" (lfW (wideL d) d.fields) d.fields.length 0 = pFields (wideL d) d.fields := firstDue_congr (N := d.fields.length) (fun i hi => by
    unfold lfW fldWord
    cases hm : d.fields[i]? with
    | none => rfl
    | some m => exact field_eq hm (hfd m (List.mem_of_getElem? hm))) _ 0 (by omega)
  have e2 : firstDue "method" (lmW (wideL d) ls) ls.length 0 = pMethods (wideL d) ls := firstDue_congr (N := ls.length) (fun i hi => by
    unfold lmW metWord
    cases hm : ls[i]? with
    | none => rfl
    | some l => exact method_eq hm (hlm l (List.mem_of_getElem? hm))) _ 0 (by omega)
  unfold lawDue pFault
  rw [class_eq hF, e1, e2, ew]
  cases classDue d <;> rfl
end N8

set_option maxHeartbeats 4000000
namespace N8
open PySem PySem.Spec PyProof.Rows L2 Evl
open SX (S)
abbrev sClassFileEq : Stmt := (inCls (topS 56)).getD 1 (.Pass ⟨0, 0, 0, 0⟩)
theorem scClassFileEq : FnScope ["self", "other"] ["self", "other"] (L2.defScope sClassFileEq) := ⟨rfl, rfl, rfl, by decide +kernel, rfl, by decide +kernel, by decide +kernel⟩

/-! ### two classes of the same parts are equal -/
def SameOk (v : V) : Prop := v = .non ∨ (∃ i, v = .int i) ∨ (∃ z, v = .str z) ∨ ∃ a, v = .ref a
def DSame : Eqv := fun x y _ => x = y ∧ SameOk x
theorem mon_same : Mon DSame := fun _ _ _ _ _ d => d
theorem eqG_same {X : Cx} : EqG X 0 DSame := by
  intro A pins s σ H x y u v sb I rx ry d
  obtain ⟨rfl, h⟩ := d
  rcases h with rfl | ⟨i, rfl⟩ | ⟨z, rfl⟩ | ⟨a, rfl⟩
  · exact eqG_flat A pins s σ H _ _ u v sb I rx ry ⟨rfl, rfl, rfl⟩
  · exact eqG_flat A pins s σ H _ _ u v sb I rx ry ⟨rfl, rfl, by simp [eqV]⟩
  · exact eqG_flat A pins s σ H _ _ u v sb I rx ry ⟨rfl, rfl, by simp [eqV]⟩
  · cases rx
    cases ry
    exact SeqAt.EqAt.same (A := A) (s := s) (.ref a) X.prog X.w X.xe _ ⟨rfl, H, I, Ext.rfl'⟩
/-- the same, or tuples of the same -/
def D1 (K : PySem.W.Frag) : Eqv := fun x y H => DSame x y H ∨ DTup K DSame x y H
theorem mon_D1 {K : PySem.W.Frag} : Mon (D1 K) := mon_same.or (mon_tup mon_same)
theorem eqG_D1 {X : Cx} : EqG X 1 (D1 X.K) := (eqG_same.mono (Nat.zero_le _)).or (eqG_tup mon_same eqG_same)
/-- tuples of such -/
def D2 (K : PySem.W.Frag) : Eqv := DTup K (D1 K)
theorem mon_D2 {K : PySem.W.Frag} : Mon (D2 K) := mon_tup mon_D1
theorem eqG_D2 {X : Cx} : EqG X 2 (D2 X.K) := eqG_tup mon_D1 eqG_D1
theorem rcG_mem {X : Cx} : RcG X 3 (DTup X.K (D2 X.K)) := rcG_tup mon_D2 eqG_D2
theorem rcG_strs {X : Cx} : RcG X 1 (DTup X.K DSame) := rcG_tup mon_same eqG_same
theorem prs_same {xs : List V} {H : Hp} (h : ∀ x ∈ xs, SameOk x) : Prs DSame xs xs H := ⟨rfl, fun i x y h1 h2 => by
  rw [h1] at h2
  exact ⟨Option.some.inj h2, h x (List.mem_of_getElem? h1)⟩⟩
theorem prs_strs {ws : List Str} {H : Hp} : Prs DSame (ws.map V.str) (ws.map V.str) H := prs_same fun x hx => by
  obtain ⟨z, _, rfl⟩ := List.mem_map.mp hx
  exact .inr (.inr (.inl ⟨z, rfl⟩))
theorem kept_same {K : PySem.W.Frag} {H : Hp} {m : Mem} {v v' : V} (h : KeptAt H v m) (h' : KeptAt H v' m) (hx : SameOk m.x) : D2 K v v' H := by
  obtain ⟨t, fl, rfl, ht, hf⟩ := h
  obtain ⟨t', fl', rfl, ht', hf'⟩ := h'
  exact ⟨t, t', _, _, rfl, rfl, st_of ht, st_of ht', .cons (.inl ⟨rfl, .inr (.inr (.inl ⟨_, rfl⟩))⟩) (.cons (.inl ⟨rfl, .inr (.inr (.inl ⟨_, rfl⟩))⟩) (.cons (.inr ⟨fl, fl', _, _, rfl, rfl, st_of hf, st_of hf', prs_strs⟩) (.cons (.inl ⟨rfl, hx⟩) .nil)))⟩
theorem mems_same {K : PySem.W.Frag} {H : Hp} {ms : List Mem} {xs ys : List V} (h : Mems (KeptAt H) xs ms) : Mems (KeptAt H) ys ms → (∀ m ∈ ms, SameOk m.x) → Prs (D2 K) xs ys H := by
  induction h generalizing ys with
  | nil => intro h' _; cases h'; exact .nil
  | cons a _ ih =>
    intro h' hx
    cases h' with
    | cons a' r' => exact .cons (kept_same a a' (hx _ List.mem_cons_self)) (ih r' fun m hm => hx m (List.mem_cons_of_mem _ hm))
def RF (K : PySem.W.Frag) (a b : Addr) (H : Hp) : Prop := ∃ d, FileAt K H a d ∧ FileAt K H b d ∧ (∀ m ∈ d.fields, SameOk m.x) ∧ ∀ m ∈ d.methods, SameOk m.x
theorem RF.ext {K : PySem.W.Frag} (a b : Addr) (H H' : Hp) (e : Ext H H') (h : RF K a b H) : RF K a b H' := by
  obtain ⟨d, h1, h2, h3⟩ := h
  exact ⟨d, h1.ex e, h2.ex e, h3⟩
section
variable {K : PySem.W.Frag} {σ : L2.St} {H H' : Hp} {te ta : TE} {x y : V}
theorem ev_eqG {D : Eqv} (hm : Mon D) (h : Ev te σ H x) (h2 : Ev ta σ H y) (d : D x y H) : Ev (tOp (rEqG D) te ta) σ H (.bl true) := fun H1 e Q q =>
  h H1 e _ fun H2 e2 => h2 H2 (e.trans e2) _ fun H3 e3 => ⟨hm _ _ _ _ ((e.trans e2).trans e3) d, fun H4 e4 => q H4 ((e2.trans e3).trans e4)⟩
end
section
variable {P : Program} {w : World} {K : PySem.W.Frag} {mg : Str → Option Value} {base : Heap}
theorem ok_cfEq {f : Addr} {fd : FuncData} (F : FunD K "__eq__" "ClassFile.__eq__" (L2.defArgs sClassFileEq) (L2.defBody sClassFileEq) (L2.defScope sClassFileEq) [] [] f fd) (B : Bt mg) (cf : CFK K) (g_ClassFile : mg "ClassFile" = some (.ref (cl K "ClassFile"))) (ci : C8.InsC K (cl K "ClassFile")) : FnOk P w K mg base L2.CX0 5 f fd ["self", "other"] (spEq (RF K)) := by
  refine F.ok scClassFileEq (fun vs H Q E h => ?_) (fun cdv A outer s H vs Q E hr h => ?_)
  · obtain ⟨a, b, rfl, _⟩ := h
    rfl
  · obtain ⟨a, b, rfl, ⟨d, ⟨dx, fs, ha, qi, qw, qf, qm, yf, ym, l1, l2, l3, l4, l5, l6, h7, h8, h9, h10, h11, h12⟩, ⟨dy, gs, hb, ri, rw_, rf_, rm, zf, zm, k1, k2, k3, k4, k5, k6, g7, g8, g9, g10, g11, g12⟩, hs1, hs2⟩, q⟩ := h
    refine ⟨_, PSs.nox (pss_one (ps_ret (pe_and (pe_callB call_isi (by rfl) B.isi (by decide +kernel) (pa_cons (pv 1) (pa_cons (pe_glob (v := .ref (cl K "ClassFile")) (by rfl) g_ClassFile rfl) pa_nil))) (pe_and (pe_cmpR op_eq (pe_fld (pv 0) rfl) (pe_fld (pv 1) rfl) (nomark _)) (pe_and (pe_cmpR op_eq (pe_fld (pv 0) rfl) (pe_fld (pv 1) rfl) (nomark _)) (pe_and (pe_cmpR (op_eqG rcG_strs (hr.mono (by decide))) (pe_fld (pv 0) rfl) (pe_fld (pv 1) rfl) (nomark _)) (pe_and (pe_cmpR (op_eqG rcG_strs (hr.mono (by decide))) (pe_fld (pv 0) rfl) (pe_fld (pv 1) rfl) (nomark _)) (pe_and (pe_cmpR (op_eqG rcG_mem (hr.mono (by decide))) (pe_fld (pv 0) rfl) (pe_fld (pv 1) rfl) (nomark _)) (pe_one (pe_cmpR (op_eqG rcG_mem (hr.mono (by decide))) (pe_fld (pv 0) rfl) (pe_fld (pv 1) rfl) (nomark _))))))))))), ?_⟩
    have fa : ∀ {σ' : L2.St} {x : Str} {v : V}, σ'[0]? = some (some (.ref a)) → x ∈ (["name", "parent", "interfaces", "flags", "fields", "methods"] : List Str) → fs.lookup x = some v → Ev (tFld K (tVar 0) x) σ' H v := fun h0 hm hl => ev_fld (ev_var h0) ha cf.c (cf.no _ hm) hl
    have fb : ∀ {σ' : L2.St} {x : Str} {v : V}, σ'[1]? = some (some (.ref b)) → x ∈ (["name", "parent", "interfaces", "flags", "fields", "methods"] : List Str) → gs.lookup x = some v → Ev (tFld K (tVar 1) x) σ' H v := fun h0 hm hl => ev_fld (ev_var h0) hb cf.c (cf.no _ hm) hl
    have hsc : scal (parV d.parent) (parV d.parent) = true := by cases d.parent <;> rfl
    have sv : ∀ l : List (List Nat), l.map N8.vs = (l.map S).map V.str := fun l => by rw [List.map_map]; rfl
    rw [sv] at h7 g7
    refine s_ret (v := .bl true) (ev_is (ev_andV (a := true) (b := true) (ev_isC (ev_var rfl) hb ci ci.me) fun _ => ev_is (ev_andV (a := true) (b := true) (ev_is (ev_op (fa rfl (by decide) l1) (fb rfl (by decide) k1) (rv_eq rfl)) (congrArg V.bl (decide_eq_true rfl))) fun _ =>
      ev_is (ev_andV (a := true) (b := true) (ev_is (ev_op (fa rfl (by decide) l2) (fb rfl (by decide) k2) (rv_eq hsc)) (congrArg V.bl (decide_eq_true rfl))) fun _ =>
      ev_is (ev_andV (a := true) (b := true) (ev_eqG (mon_tup mon_same) (fa rfl (by decide) l3) (fb rfl (by decide) k3) ⟨_, _, _, _, rfl, rfl, st_of h7, st_of g7, prs_strs⟩) fun _ =>
      ev_is (ev_andV (a := true) (b := true) (ev_eqG (mon_tup mon_same) (fa rfl (by decide) l4) (fb rfl (by decide) k4) ⟨_, _, _, _, rfl, rfl, st_of h8, st_of g8, prs_strs⟩) fun _ =>
      ev_is (ev_andV (a := true) (b := true) (ev_eqG (mon_tup mon_D2) (fa rfl (by decide) l5) (fb rfl (by decide) k5) ⟨_, _, _, _, rfl, rfl, st_of h9, st_of g9, mems_same h10 g10 hs1⟩) fun _ =>
      ev_eqG (mon_tup mon_D2) (fa rfl (by decide) l6) (fb rfl (by decide) k6) ⟨_, _, _, _, rfl, rfl, st_of h11, st_of g11, mems_same h12 g12 hs2⟩) rfl) rfl) rfl) rfl) rfl) rfl) fun H1 x1 => q H1 x1
end
end N8

set_option maxHeartbeats 4000000
namespace N8
open PySem PySem.Spec PyProof.Rows L2 Evl
open SX (S)
abbrev sLawRight : Stmt := topS 114
theorem scLawRight : FnScope ["well", "plan", "made", "due", "got"] ["well"] (L2.defScope sLawRight) := ⟨rfl, rfl, rfl, by decide +kernel, rfl, by decide +kernel, by decide +kernel⟩

/-! ### a call by name alone -/
structure ClK (P : Program) (w : World) (K : PySem.W.Frag) (mg : Str → Option Value) (base : Heap) (k : Nat) (x p1 : Str) (sp : Sp) : Prop where
  ex : ∃ (f : Addr) (fd : FuncData), FnOk P w K mg base L2.CX0 k f fd [p1] sp ∧ mg x = some (.ref f) ∧ PySem.W.keepIn K (.ref f) = true ∧ ∀ (s : Shared) (v : Value), K.In s.heap → BindsTo s fd ⟨[], [(p1, v)]⟩ [(p1, v)]
def gK {α : Type} : List α → List α → List α
  | [], ws => ws
  | _ :: _, _ => []
theorem kb_of {K : PySem.W.Frag} {fd : FuncData} {p1 : Str} (h : ∀ (s : Shared) (v : Value), K.In s.heap → BindsTo s fd ⟨[], [(p1, v)]⟩ [(p1, v)]) : KBinds K fd [p1] [p1] gK gK := by
  refine ⟨fun s us ws X hl => ?_, fun r rz => ?_⟩
  · cases us with
    | cons u us => cases hl
    | nil =>
      match ws, hl with
      | [v], _ => exact h s v X
  · cases r with
    | nil => exact rz
    | cons _ _ => exact .nil
theorem pe_clK {X : Cx} {k j : Nat} {x p1 : Str} {sp : Sp} {p pos : Pos} {kws : List Keyword} {tk : TA} (c : ClK X.prog X.w X.K X.mg X.base k x p1 sp) (hr : Room j X.A) (hk : k ≤ j) (hg : Gl X x) (hkw : PK X kws tk)
    (hall : (backToKw pos (keywordEach kws X.env)).all (·.1.isSome) = true := by rfl) (hks : (backToKw pos (keywordEach kws X.env)).filterMap (·.1) = [p1] := by rfl) (hdb : (x == ("__debug__" : Str)) = false := by decide)
    (hpl : ((backTo pos (starEach [] X.env)).any (·.1) || (backToKw pos (keywordEach kws X.env)).any (·.1.isNone)) = false := by rfl) : PE X (.Call (.Name x p) [] kws pos) (tCall sp [] L2.E0 tk) := by
  obtain ⟨f, fd, F, hm, hkp, hb⟩ := c.ex
  refine ⟨fun pins s σ H Q I h => ?_⟩
  refine wpAny_Call_Name_kw (ld_glob I hg hm ?_ hdb)
  refine PySem.W.callWith_KW0 (h₀ := X.base) I.ok.mod.kin hkp hall ?_ hpl
  refine thn (hkw.run pos pins s σ H _ I h) fun ws s2 ⟨zs, H2, I2, rz, q2⟩ => ⟨I2.kIn, ?_⟩
  rw [hks]
  refine run_fnk F (hr.mono hk) (kb_of hb) L2.pass0 I2 .nil rz ?_
  have e : gK [] zs = zs ++ [] := (List.append_nil zs).symm
  rw [e]
  exact q2
/-! ### what is due, as a value -/
def DV (o : Due3) (v : V) (H : Hp) : Prop := match o with
  | none => v = .non
  | some (a, b, k) => ∃ r, v = .ref r ∧ H r = some (.tup [.str a, .str b, .int k])
def dD : Due3 → PyData
  | none => .none
  | some (a, b, k) => .tuple [.str a, .str b, .int k]
theorem DV.ex {o : Due3} {v : V} {H H' : Hp} (h : DV o v H) (e : Ex H H') : DV o v H' := by
  match o, h with
  | none, h => exact h
  | some (a, b, k), ⟨r, h1, h2⟩ => exact ⟨r, h1, e _ _ h2⟩
theorem retD_of {o : Due3} {H : Hp} {Q : VK} (h : ∀ v H2, Ex H H2 → DV o v H2 → Q v H2) : RetD o H Q := by
  match o with
  | none => exact fun H2 e => h _ H2 e rfl
  | some (a, b, k) => exact fun q H2 hq e h2 => h _ H2 e ⟨q, rfl, h2⟩
theorem retD_eq {o o' : Due3} {H : Hp} {Q : VK} (e : o = o') (h : RetD o' H Q) : RetD o H Q := e ▸ h
theorem DV.dp {K : PySem.W.Frag} {o : Due3} {v : V} {H : Hp} (h : DV o v H) : Dp K H v (dD o) := by
  match o, h with
  | none, h => rw [show v = .non from h]; exact .non
  | some (a, b, k), ⟨r, h1, h2⟩ => rw [h1]; exact .tup (st_of h2) (.cons (.str _) (.cons (.str _) (.cons (.int _) .nil)))
theorem dD_eqv (o : Due3) : PyData.eqv (dD o) (dD o) = true := by
  match o with
  | none => simp [dD, PyData.eqv]
  | some (a, b, k) => simp [dD, PyData.eqv, PyData.eqvAll]
def DueOk (o : Due3) : Prop := ∀ z, o = some z → PyData.strOk z.1 = true ∧ PyData.strOk z.2.1 = true
theorem dD_shaped {o : Due3} (h : DueOk o) : SeqAt.shaped (dD o) = true := by
  match o, h with
  | none, _ => decide +kernel
  | some (a, b, k), h =>
    obtain ⟨h1, h2⟩ := h _ rfl
    exact shaped_of (by simp only [dD, PyData.canLay0, PyData.canLayAll0, h1, h2]; rfl) (by simp [dD, PyData.depth, PyData.depthAll])
def dueW : List Str := ["flags", "parent", "interfaces", "twice", "constant", "init", "result", "code", "places", "class", "field", "method"]
theorem dueW_ok : ∀ z ∈ dueW, PyData.strOk z = true := by decide +kernel
theorem first_ok {part : Str} {f : Nat → Option Str} (hp : part ∈ dueW) (hf : ∀ i z, f i = some z → z ∈ dueW) : ∀ n i, DueOk (firstDue part f n i)
  | 0, _ => fun z e => by cases e
  | n + 1, i => fun z e => by
    have e0 : firstDue part f (n + 1) i = match f i with | some z => some (z, part, (i : Int)) | none => firstDue part f n (i + 1) := rfl
    rw [e0] at e
    cases hi : f i with
    | some y =>
      rw [hi] at e
      cases e
      exact ⟨dueW_ok _ (hf i y hi), dueW_ok _ hp⟩
    | none =>
      rw [hi] at e
      exact first_ok hp hf n (i + 1) z e
theorem fault_ok (d : CD) (ls : List LM) : DueOk (pFault d ls) := by
  have h1 : DueOk (pClass d) := by
    intro z e
    unfold pClass at e
    split at e
    · cases e; exact ⟨dueW_ok _ (by decide), dueW_ok _ (by decide)⟩
    · split at e
      · cases e; exact ⟨dueW_ok _ (by decide), dueW_ok _ (by decide)⟩
      · split at e
        · cases e; exact ⟨dueW_ok "interfaces" (by decide), dueW_ok "class" (by decide)⟩
        · cases e
  have h2 : DueOk (pFields (isWide d) d.fields) := first_ok (by decide) (fun i z e => by
    unfold fldWord at e
    split at e
    · cases e
    · unfold fldW at e
      repeat (split at e; · cases e; decide)
      cases e) _ _
  have h3 : DueOk (pMethods (isWide d) ls) := first_ok (by decide) (fun i z e => by
    unfold metWord at e
    split at e
    · cases e
    · unfold wordOf at e
      repeat (split at e; · cases e; decide)
      cases e) _ _
  unfold pFault
  cases e1 : pClass d with
  | some z => rw [e1] at h1; exact h1
  | none =>
    cases e2 : pFields (isWide d) d.fields with
    | some z => rw [e2] at h2; exact h2
    | none => exact h3
theorem PlanF.ex {K : PySem.W.Frag} {H H' : Hp} {v : V} {d : CD} {ls : List LM} (h : PlanF K H v d ls) (e : Ex H H') : PlanF K H' v d ls := by
  obtain ⟨t, pi, pw, pf, pm, xf, xm, h1, h2, h3, h4, h5, h6, h7, h8, h9, h10, h11, h12⟩ := h
  exact ⟨t, pi, pw, pf, pm, xf, xm, h1, e _ _ h2, e _ _ h3, e _ _ h4, e _ _ h5, h6.imp fun _ _ k => k.ex e, h7, e _ _ h8, h9.imp fun _ _ k => k.ex e, h10, h11, fun m hm => (h12 m hm).ex e⟩
theorem same_const {x : V} (h : ConstOk x) : SameOk x := by
  rcases h with h | ⟨i, h, _⟩ | ⟨l, h, _⟩
  · exact .inl h
  · exact .inr (.inl ⟨i, h⟩)
  · exact .inr (.inr (.inl ⟨_, h⟩))
theorem same_code {K : PySem.W.Frag} {H : Hp} {x : V} {c : Bool} {hi : Int} (h : CodeAt K H x c hi) : SameOk x := by
  rcases h with ⟨h, _⟩ | ⟨a, dx, fs, h1, _⟩ | ⟨a, dx, fs, h1, _⟩
  · exact .inl h
  · exact .inr (.inr (.inr ⟨a, h1⟩))
  · exact .inr (.inr (.inr ⟨a, h1⟩))
structure EqM (P : Program) (w : World) (K : PySem.W.Frag) (mg : Str → Option Value) (base : Heap) : Prop where
  ex : ∃ (f : Addr) (fd : FuncData), PySem.W.findIn K (.ref (cl K "ClassFile")) "__eq__" = some (some (.ref f)) ∧ PySem.W.isFn K (.ref f) = true ∧ FnOk P w K mg base L2.CX0 5 f fd ["self", "other"] (spEq (RF K)) ∧ Binds K fd ["self", "other"] []
def spRight : Sp := fun vs H Q _ => ∃ (a : Addr) (n : Nat), vs = [.ref a] ∧ WellAt H a n ∧ n ≤ 600000 ∧ ∀ H', Exa a H H' → WellAt H' a (n + 15000) → Q (.bl true) H'
section
variable {K : PySem.W.Frag} {σ : L2.St} {H H' : Hp} {te ta tb tl : TE} {v x y : V}
theorem ev_neDue {o : Due3} (ho : DueOk o) (h : Ev te σ H x) (h2 : Ev ta σ H y) (hx : DV o x H) (hy : DV o y H) : Ev (tOp (rNeD K) te ta) σ H (.bl false) := fun H1 e Q q =>
  h H1 e _ fun H2 e2 => h2 H2 (e.trans e2) _ fun H3 e3 => ⟨dD o, dD o, (hx.ex ((e.trans e2).trans e3)).dp, (hy.ex ((e.trans e2).trans e3)).dp, dD_shaped ho, dD_shaped ho, by rw [dD_eqv]; exact q H3 (e2.trans e3)⟩
theorem et_got {o : Due3} (h : Ev te σ H x) (hx : DV o x H) : EvT (tAnd (tTest (tOp (fun x y H Q => y = V.non ∧ Q (.bl (!decide (x = V.non))) H) te (tC .non))) (tNot (tB (tCB (rIsi K) (tCons te (tCons (tC (.ty "tuple")) tNil)))))) σ H false := by
  match o, hx with
  | none, hx =>
    rw [show x = .non from hx] at h
    exact et_is (et_and (a := false) (b := false) (et_test fun H1 e Q q => h H1 e _ fun H2 e2 => ⟨rfl, q H2 e2⟩) fun e => by cases e) rfl
  | some (a, b, k), ⟨r, hr, ht⟩ =>
    rw [hr] at h
    exact et_is (et_and (a := true) (b := false) (et_test fun H1 e Q q => h H1 e _ fun H2 e2 => ⟨rfl, q H2 e2⟩) fun _ => et_is (et_not (et_test (ev_isi (b := true) h (.base (.tup ht)) (by decide +kernel)))) rfl) rfl
end
section
variable {P : Program} {w : World} {K : PySem.W.Frag} {mg : Str → Option Value} {base : Heap}
theorem ok_lawRight {f : Addr} {fd : FuncData} (F : FnP K "_law_right" sLawRight f fd) (B : Bt mg) (em : EqM P w K mg base) (ck_fault : ClK P w K mg base 11 "fault" "file" (spFault K)) (c_fault : Cl P w K mg base L2.CX0 11 "fault" ["file"] (spFault K)) (c_law_plan : Cl P w K mg base L2.CX0 7 "_law_plan" ["well"] (spLPlan K))
    (c_law_made : Cl P w K mg base L2.CX0 12 "_law_made" ["plan"] (spMade K)) (c_law_due : Cl P w K mg base L2.CX0 4 "_law_due" ["plan"] (spLDue K)) : FnOk P w K mg base L2.CX0 13 f fd ["well"] spRight := by
  obtain ⟨fe, fde, he1, he2, Fe, hbe⟩ := em.ex
  refine F.ok scLawRight (fun vs H Q E h => ?_) (fun cdv A outer s H vs Q E hr h => ?_)
  · obtain ⟨a, n, rfl, _⟩ := h
    rfl
  · obtain ⟨a, n, rfl, hw, hn, q⟩ := h
    refine ⟨_, PSs.nox (pss_cons (ps_set (i := 1) scLawRight.nd rfl (.inl rfl) (pe_cl c_law_plan hr (by decide) (by rfl) (pa_cons (pv 0) pa_nil)))
      (pss_cons (ps_par (i := 2) (j := 3) rfl scLawRight.nd rfl rfl (by decide) rfl rfl (pa_cons (pe_cl c_law_made hr (by decide) (by rfl) (pa_cons (pv 1) pa_nil)) (pa_cons (pe_cl c_law_due hr (by decide) (by rfl) (pa_cons (pv 1) pa_nil)) pa_nil)) rfl)
      (pss_cons (ps_set (i := 4) scLawRight.nd rfl (.inl rfl) (pe_cl c_fault hr (by decide) (by rfl) (pa_cons (pv 2) pa_nil)))
      (pss_cons (ps_if (PW.pt (pw_or (pt_cmpR (op_neD hr.units) (pv 4) (pv 3) (nomark _)) (pw_or1 (PW.pt (pw_and (pt_cmpR op_notN (pv 4) pe_non (nomark _)) (pw_and1 (pt_not (pt_val (pe_callB call_isi (by rfl) B.isi (by decide +kernel) (pa_cons (pv 4) (pa_cons (pe_bltn (v := .ty "tuple") (by rfl) B.tuple (by decide +kernel) rfl) pa_nil))))))))))) (pss_one (ps_ret pe_bl)) pss_nil)
      (pss_one (ps_ret (pe_and (pe_cmpR (op_eqD hr.units) (pe_clK ck_fault hr (by decide) (by rfl) (pk_cons (pv 2) pk_nil)) (pv 3) (nomark _)) (pe_one (pe_cmpR (op_eqG (rcG_ins Fe he1 he2 hbe L2.pass0) (hr.mono (by decide))) (pv 2) (pe_cl c_law_made hr (by decide) (by rfl) (pa_cons (pv 1) pa_nil)) (nomark _)))))))))), ?_⟩
    refine q_asgAny (rd_call (rd_cons (rd_ev (ev_var rfl) fun H1 x1 => rd_nil ⟨a, n, rfl, hw.ex x1, hn, fun v d ls H2 xa2 w2 hP cok hlm hfd l1 l2 l3 _ _ => ?_⟩)))
    have A2 := (Exa.of x1).trans xa2
    have edue : lawDue d ls = pFault d ls := due_eq cok.f hfd hlm
    have fok := fault_ok d ls
    have l4 : d.methods = ls.map (·.m) := by
      obtain ⟨t, pi, pw, pf, pm, xf, xm, h1, h2, h3, h4, h5, h6, h7, h8, h9, h10, h11, h12⟩ := hP
      exact h11
    -- made, due
    refine rd_seq (show tPar _ _ _ _ _ _ from rd_cons (rd_call (rd_cons (rd_ev (ev_var rfl) fun H3 x3 => rd_nil ⟨v, d, ls, rfl, hP.ex x3, cok, fun x H4 x4 hx hfile => rd_cons (rd_call (rd_cons (rd_ev (ev_var rfl) fun H5 x5 => rd_nil ⟨v, d, ls, rfl, ((hP.ex x3).ex x4).ex x5, cok.f, by omega, hfd, fun l hl => (((hlm l hl).ex x3).ex x4).ex x5, by omega, by omega, retD_eq edue <| retD_of fun dv H6 x6 hdv => rd_nil ⟨_, _, rfl, ?_⟩⟩)))⟩))))
    have E6 : Ex H2 H6 := ((x3.trans x4).trans x5).trans x6
    have fileOk : ∀ H7, Ex H6 H7 → FileOk K H7 x d ls := fun H7 x7 => ⟨hfile.ex ((x5.trans x6).trans x7), ⟨l4, by omega, fun l hl => ⟨(hlm l hl).1.ex (E6.trans x7), (descs_ok _ (hlm l hl).2.2.1).1, Option.isSome_iff_exists.mp (descs_ok _ (hlm l hl).2.2.1).2⟩⟩, by omega, by omega, fun m hm => (hfd m hm).2.2.2.c3⟩
    -- got
    refine q_asgAny (rd_call (rd_cons (rd_ev (ev_var rfl) fun H7 x7 => rd_nil ⟨x, d, ls, rfl, fileOk H7 x7, retD_of fun gv H8 x8 hgv => ?_⟩)))
    have E8 := E6.trans (x7.trans x8)
    refine q_when (b := false) (et_is (et_or (a := false) (b := false) (et_test (ev_neDue fok (ev_var rfl) (ev_var rfl) hgv (hdv.ex (x7.trans x8)))) fun _ => et_got (ev_var rfl) hgv) rfl) (fun e => by cases e) fun _ H9 x9 => ?_
    have E9 := E8.trans x9
    have x79 := (x7.trans x8).trans x9
    -- the rest
    refine s_ret (v := .bl true) (ev_is (ev_andV (a := true) (b := true) (fun H10 x10 Q' q' => ?_) fun _ => (fun H10 x10 Q' q' => ?_)) rfl) fun H10 x10 => q H10 (A2.trans (Exa.of (E9.trans x10))) (w2.ex (E9.trans x10))
    · refine rd_op (rd_call (rd_cons (rd_ev (ev_var rfl) fun H11 x11 => rd_nil ⟨x, d, ls, rfl, fileOk H11 ((x79.trans x10).trans x11), retD_of fun gv2 H12 x12 hgv2 => rd_ev (ev_var rfl) fun H13 x13 => ?_⟩)))
      have xx := (((x79.trans x10).trans x11).trans x12).trans x13
      refine ⟨dD _, dD _, (hgv2.ex x13).dp, (hdv.ex xx).dp, dD_shaped fok, dD_shaped fok, ?_⟩
      rw [dD_eqv]
      exact q' H13 ((x11.trans x12).trans x13)
    · refine rd_op (rd_ev (ev_var rfl) fun H11 x11 => rd_call (rd_cons (rd_ev (ev_var rfl) fun H12 x12 => rd_nil ⟨v, d, ls, rfl, hP.ex ((E9.trans x10).trans (x11.trans x12)), cok, fun x2 H13 x13 hx2 hfile2 => ?_⟩)))
      have xx := ((((x5.trans x6).trans x79).trans x10).trans (x11.trans x12)).trans x13
      obtain ⟨dx1, fs1, hb1, _⟩ := id (hfile.ex xx)
      obtain ⟨dx2, fs2, hb2, _⟩ := id hfile2
      refine ⟨⟨x, x2, _, _, _, _, rfl, rfl, hb1, hb2, d, hfile.ex xx, hfile2, fun m hm => same_const (hfd m hm).2.2.2, fun m hm => ?_⟩, fun H14 e14 => q' H14 ((x11.trans x12).trans (x13.trans e14))⟩
      rw [l4] at hm
      obtain ⟨l, hl, rfl⟩ := List.mem_map.mp hm
      exact same_code (hlm l hl).1
end
end N8

set_option maxHeartbeats 4000000
namespace N8
open PySem PySem.Spec PyProof.Rows L2 Evl
open SX (S)
abbrev sLaw : Stmt := topS 116
theorem scLaw : FnScope ["script", "cell", "well", "lap", "some", "thing"] ["script"] (L2.defScope sLaw) := ⟨rfl, rfl, rfl, by decide +kernel, rfl, by decide +kernel, by decide +kernel⟩

structure KF (K : PySem.W.Frag) : Prop where
  b : ∀ T ∈ (["NoneType", "int", "str", "tuple", "list", "dict", "bool"] : List String), PySem.W.kitOne K (.type T) (.ref (cl K "ClassFile")) = some false
  c : PySem.W.kitOne K (.ref (cl K "Code")) (.ref (cl K "ClassFile")) = some false
  u : PySem.W.kitOne K (.ref (cl K "Uncut")) (.ref (cl K "ClassFile")) = some false
theorem ex_of {a : Addr} {H H' : Hp} (h : H a = none) (e : Exa a H H') : Ex H H' := fun b o hb => e b o (ne_of_none hb h) hb
section
variable {K : PySem.W.Frag} {σ : L2.St} {H H' : Hp} {te ta tb tl : TE} {tq tr : TA} {v x y : V} {D : Ends} {tu tw tz : TS} {Q : VK}
theorem rd_ifNB (h : te σ H fun x H1 => ∃ b, x = .bl b ∧ if (!b) = true then tu D σ H1 else tw D σ H1) : tIfS (tNot (tB te)) tu tw D σ H := h
theorem el_cat {xs ys : List V} (h : EvL ta σ H xs) (hb : EvL tb σ H ys) (hx : xs.length + ys.length ≤ 100000) : EvL (tOp rCat ta tb) σ H (xs ++ ys) := fun H1 e Q q =>
  h H1 e _ fun p H2 hp e2 h2 => hb H2 (e.trans e2) _ fun p3 H3 hp3 e3 h3 => ⟨p, p3, xs, ys, rfl, rfl, e3 _ _ h2, h3, sz_of hx, fun p2 hp2 => q p2 _ (fresh_back (e2.trans e3) hp2) ((e2.trans e3).trans (Ex.new hp2)) upd_same⟩
end
def spLaw (K : PySem.W.Frag) : Sp := fun vs H Q _ => ∃ (a : Addr) (ns : List Int), vs = [.ref a] ∧ SqL K H a (ns.map V.int) ∧ ns.length ≤ 63 ∧ ∀ H', Q (.bl true) H'
section
variable {P : Program} {w : World} {K : PySem.W.Frag} {mg : Str → Option Value} {base : Heap}
theorem ok_law {f : Addr} {fd : FuncData} (F : FnP K "law" sLaw f fd) (B : Bt mg) (kf : KF K) (cu : CU2 K mg) (m_Code : MkCo P w K mg base) (m_Uncut : MkUn P w K mg base) (c_law_well : Cl P w K mg base L2.CX0 1 "_law_well" ["cell"] spWell) (c_law_right : Cl P w K mg base L2.CX0 13 "_law_right" ["well"] spRight)
    (c_law_said : Cl P w K mg base L2.CX0 12 "_law_said" ["thing"] (spSaid K)) : FnOk P w K mg base L2.CX0 14 f fd ["script"] (spLaw K) := by
  refine F.ok scLaw (fun vs H Q E h => ?_) (fun cdv A outer s H vs Q E hr h => ?_)
  · obtain ⟨a, ns, rfl, _⟩ := h
    rfl
  · obtain ⟨sc, ns, rfl, hS, hns, q⟩ := h
    refine ⟨_, PSs.nox (pss_cons (ps_for PassesOwn.never rfl (pi_list (pe_op op_cat (pe_slice sl_list (pv 0) po_none (po_some pe_int)) (pe_lst (pa_cons pe_int pa_nil)))) (pg_name (i := 1) scLaw.nd rfl (.inl rfl)) (pss_cons (ps_set (i := 2) scLaw.nd rfl (.inl rfl) (pe_cl c_law_well hr (by decide) (by rfl) (pa_cons (pv 1) pa_nil)))
      (pss_cons (ps_for PassesOwn.never rfl (pi_range1 (by rfl) B.range (pa_cons pe_int pa_nil)) (pg_name (i := 3) scLaw.nd rfl (.inl rfl)) (pss_one (ps_if (pt_not (pt_val (pe_cl c_law_right hr (by decide) (by rfl) (pa_cons (pv 2) pa_nil)))) (pss_one (ps_ret pe_bl)) pss_nil)))
      (pss_cons (ps_set (i := 4) scLaw.nd rfl (.inl rfl) (pe_lst (pa_cons pe_non (pa_cons pe_int (pa_cons pe_str (pa_cons (pe_tup pa_nil) (pa_cons (pe_lst pa_nil) (pa_cons pe_dnewK (pa_cons pe_bl (pa_cons (MkCo.pe m_Code hr (by decide) (by rfl) (pa_cons pe_int (pa_cons pe_int (pa_cons (pe_lst (pa_cons (pe_tup (pa_cons pe_str pa_nil)) pa_nil)) (pa_cons (pe_lst pa_nil) (pa_cons (pe_lst pa_nil) pa_nil)))))) (pa_cons (MkUn.pe m_Uncut hr (by decide) (by rfl) (pa_cons pe_str (pa_cons pe_int pa_nil))) pa_nil)))))))))))
      (pss_one (ps_for PassesOwn.never rfl (pi_list (pv 4)) (pg_name (i := 5) scLaw.nd rfl (.inl rfl)) (pss_one (ps_if (pt_cmpR (op_neD hr.units) (pe_cl c_law_said hr (by decide) (by rfl) (pa_cons (pv 5) pa_nil)) pe_str (nomark _)) (pss_one (ps_ret pe_bl)) pss_nil))))))))
      (pss_one (ps_ret pe_bl))), ?_⟩
    have hcut : (cutV (ns.map V.int) none (some 6)).length ≤ 63 := by
      unfold cutV
      rw [List.length_take, List.length_drop, List.length_map]
      omega
    refine q_forNL (el_cat (el_sl (lo := none) (hi := some 6) (ev_var rfl) eo_none (eo_some ev_c) hS) (el_lst (ea_cons ev_c ea_nil) (by show 1 ≤ 100000; decide)) (by show _ + 1 ≤ 100000; omega))
      (fun p i σ' H' => Ex H H' ∧ H' p = some (.lst (cutV (ns.map V.int) none (some 6) ++ [.int 0])) ∧ ∃ v1 v2 v3 v4 v5, σ' = [some (.ref sc), v1, v2, v3, v4, v5])
      (fun p H1 hp x1 h1 => ⟨x1, h1, none, none, none, none, none, rfl⟩) (fun p i σ' H' hi hP => sq_of hP.2.1) (fun p i x σ' Hs hx hP => ?_) (fun p σ' H' hP => ?_)
    · obtain ⟨xE, hp, v1, v2, v3, v4, v5, rfl⟩ := hP
      obtain ⟨cell, rfl⟩ : ∃ i : Int, x = .int i := by
        have hm := List.mem_of_getElem? hx
        rcases List.mem_append.mp hm with h | h
        · unfold cutV at h
          obtain ⟨i, _, e⟩ := List.mem_map.mp (List.mem_of_mem_drop (List.mem_of_mem_take h))
          exact ⟨i, e.symm⟩
        · exact ⟨0, List.mem_singleton.mp h⟩
      refine q_asgAny (rd_call (rd_cons (rd_ev (ev_var rfl) fun H1 x1 => rd_nil ⟨cell, rfl, fun a H2 ha x2 w2 => ?_⟩)))
      have x02 : Ex Hs H2 := x1.trans x2
      -- six laps
      refine q_forR1 (n := 6) (ea_cons ev_c ea_nil) (by decide) (fun i σ' H' => Exa a H1 H' ∧ WellAt H' a (i * 15000) ∧ ∃ v3, σ' = [some (.ref sc), some (.int cell), some (.ref a), v3, v4, v5])
        (fun H3 x3 => ⟨Exa.of (x2.trans x3), w2.ex x3 |>.le (Nat.zero_le _), v3, rfl⟩) (fun i σ' H' hi hP => ?_) (fun σ' H' hP => ?_)
      · obtain ⟨e1, w3, v3, rfl⟩ := hP
        refine rd_ifNB (rd_call (rd_cons (rd_ev (ev_var rfl) fun H4 x4 => rd_nil ⟨a, i * 15000, rfl, w3.ex x4, by omega, fun H5 xa5 w5 => ⟨true, rfl, ?_⟩⟩)))
        rw [if_neg (by decide)]
        exact ⟨(e1.trans (Exa.of x4)).trans xa5, w5.le (by omega), _, rfl⟩
      obtain ⟨e1, w3, v3, rfl⟩ := hP
      have x3 : Ex Hs H' := x1.trans (ex_of ha e1)
      clear e1 w3 w2 x02 x2
      -- the things
      refine q_asgAny (rd_lst (rd_cons (rd_c (rd_cons (rd_c (rd_cons (rd_c (rd_cons (rd_tup (rd_nil ⟨by show 0 ≤ sizeLine; decide, fun pt hpt => rd_cons (rd_lst (rd_nil ⟨by show 0 ≤ sizeLine; decide, fun pl hpl => rd_cons (show tDNewK _ _ _ from fun pd hpd => rd_cons (rd_c (rd_cons ?_)))⟩))⟩))))))))))
      have y1 : Ex H' (upd (upd (upd H' pt (.tup [])) pl (.lst [])) pd (.dK [])) := ((Ex.new hpt).trans (Ex.new hpl)).trans (Ex.new hpd)
      have t1 : (upd (upd (upd H' pt (.tup [])) pl (.lst [])) pd (.dK [])) pt = some (.tup []) := ((Ex.new hpl).trans (Ex.new hpd)) _ _ upd_same
      have t2 : (upd (upd (upd H' pt (.tup [])) pl (.lst [])) pd (.dK [])) pl = some (.lst []) := (Ex.new hpd) _ _ upd_same
      have t3 : (upd (upd (upd H' pt (.tup [])) pl (.lst [])) pd (.dK [])) pd = some (.dK []) := upd_same
      generalize upd (upd (upd H' pt (.tup [])) pl (.lst [])) pd (.dK []) = H4 at y1 t1 t2 t3 ⊢
      refine rd_mk (rd_cons (rd_c (rd_cons (rd_c (rd_cons (rd_objs (eo_U (fun H => (eu_tup (ea_cons ev_c ea_nil) (Nat.le_of_ble_eq_true rfl))) eo_nil) (by decide) fun pr gr H7 hpr y7 h7 o7 => rd_cons ((el_lst ea_nil (Nat.le_of_ble_eq_true rfl)) H7 (Ex.refl H7) _ fun ph H8 hph y8 h8 => rd_cons ((el_lst ea_nil (Nat.le_of_ble_eq_true rfl)) H8 (Ex.refl H8) _ fun pf H9 hpf y9 h9 => rd_nil ?_))))))))
      cases o7 with
      | @cons t _ gs0 _ ot1 ot2 o8 =>
      cases o8
      intro cc dxc hcc hdxc _
      refine make_code (K := K) (t := t) (z := "nop") hcc hdxc (by decide) (by decide) ((y8.trans y9) _ _ h7) ((y8.trans y9) _ _ ot2) (by decide +kernel) (y9 _ _ h8) h9 fun H10 dx fs y10 hcode hpl => ?_
      refine rd_cons (rd_mk (rd_cons (rd_c (rd_cons (rd_c (rd_nil fun cu2 dxu hcu hdxu _ => make_unc (K := K) hcu hdxu (by decide +kernel) (by decide) fun H15 dx2 fs2 y15 hunc => rd_nil ⟨by show 9 ≤ sizeLine; decide, fun pS hpS => ?_⟩))))))
      have y16 : Ex H10 (upd H15 pS (.lst [.non, .int 5, .str "A", .ref pt, .ref pl, .ref pd, .bl true, .ref cc, .ref cu2])) := y15.trans (Ex.new hpS)
      have y416 : Ex H4 (upd H15 pS (.lst [.non, .int 5, .str "A", .ref pt, .ref pl, .ref pd, .bl true, .ref cc, .ref cu2])) := (((y7.trans y8).trans y9).trans y10).trans y16
      have hthings : ∀ x ∈ [V.non, .int 5, .str "A", .ref pt, .ref pl, .ref pd, .bl true, .ref cc, .ref cu2], NotFile K (upd H15 pS (.lst [.non, .int 5, .str "A", .ref pt, .ref pl, .ref pd, .bl true, .ref cc, .ref cu2])) x := by
        intro x hx
        simp only [List.mem_cons, List.not_mem_nil, or_false] at hx
        rcases hx with rfl | rfl | rfl | rfl | rfl | rfl | rfl | rfl | rfl
        · exact ⟨_, .base .non, kf.b _ (by decide)⟩
        · exact ⟨_, .base (.int 5), kf.b _ (by decide)⟩
        · exact ⟨_, .base (.str "A"), kf.b _ (by decide)⟩
        · exact ⟨_, .base (.tup (y416 _ _ t1)), kf.b _ (by decide)⟩
        · exact ⟨_, .base (.lst (y416 _ _ t2)), kf.b _ (by decide)⟩
        · exact ⟨_, .base (.dK (y416 _ _ t3)), kf.b _ (by decide)⟩
        · exact ⟨_, .base (.bl true), kf.b _ (by decide)⟩
        · exact ⟨_, .base (TyOf.ins (y16 _ _ hcode) cu.iC.cl cu.iC.ha cu.iC.hn cu.iC.htk cu.iC.hm), kf.c⟩
        · exact ⟨_, .base (TyOf.ins ((Ex.new hpS) _ _ hunc) cu.iU.cl cu.iU.ha cu.iU.hn cu.iU.htk cu.iU.hm), kf.u⟩
      have hS2 : (upd H15 pS (.lst [.non, .int 5, .str "A", .ref pt, .ref pl, .ref pd, .bl true, .ref cc, .ref cu2])) pS = some (.lst [.non, .int 5, .str "A", .ref pt, .ref pl, .ref pd, .bl true, .ref cc, .ref cu2]) := upd_same
      have y17 := y1.trans y416
      generalize upd H15 pS (.lst [.non, .int 5, .str "A", .ref pt, .ref pl, .ref pd, .bl true, .ref cc, .ref cu2]) = H17 at hthings hS2 y17 ⊢
      refine s_forLn (j := 5) (ev_var rfl) (sq_of hS2) (fun i σ' H' => Ex H17 H' ∧ ∃ v5, σ' = [some (.ref sc), some (.int cell), some (.ref a), v3, some (.ref pS), v5]) (fun H18 x18 => ⟨x18, _, rfl⟩) (fun i σ' H' hi hP => sq_of (hP.1 _ _ hS2)) (fun i x σ' H18 hx hP => ?_) (fun σ' H18 hP => ?_)
      · obtain ⟨e1, v5, rfl⟩ := hP
        have nf := (hthings x (List.mem_of_getElem? hx)).ex e1
        exact s_when (b := false) (et_test fun H19 e Q' q' => rd_op (rd_call (rd_cons (rd_ev (ev_var rfl) fun H20 x20 => rd_nil ⟨x, rfl, nf.ex (e.trans x20), fun H21 x21 => rd_c ⟨.str "none", .str "none", .str _, .str _, by decide +kernel, by decide +kernel, by
          have e9 : (!PyData.eqv (.str "none") (.str "none")) = false := by decide +kernel
          rw [e9]
          exact q' H21 (x20.trans x21)⟩⟩)))) (fun e => by cases e) fun _ H19 x19 => ⟨e1.trans x19, _, rfl⟩
      · obtain ⟨e1, v5, rfl⟩ := hP
        have xe : Ex Hs H18 := (x3.trans y17).trans e1
        exact ⟨xE.trans xe, xe _ _ hp, _, _, _, _, _, rfl⟩
    · exact s_ret ev_c fun H1 _ => q H1
end
end N8

set_option maxHeartbeats 4000000
namespace N8
open PySem PySem.Spec PyProof.Rows L2 N8H
theorem insB_ok {K : PySem.W.Frag} {C : Addr} (c : Cls K C) (h : insB K C = true) : C8.InsC K C := by
  obtain ⟨h1, h⟩ := He.ba h
  obtain ⟨h2, h⟩ := He.ba h
  obtain ⟨h3, h⟩ := He.ba h
  obtain ⟨h4, h5⟩ := He.ba h
  exact ⟨c, He.eqO_ok h1, He.eqO_ok h2, of_decide_eq_true h3, of_decide_eq_true h4, of_decide_eq_true h5⟩
theorem tups_ok {K : PySem.W.Frag} (h : tupsB K = true) {q : Str × List Str} (hq : q ∈ tupL) (H : Hp) : SqT K H (He.ga K q.1) (q.2.map V.str) := by
  have e := He.tupB_ok (List.all_eq_true.mp h q hq) H
  have e2 : (q.2.map He.Dv.str).map (He.Dv.v K) = q.2.map V.str := by rw [List.map_map]; rfl
  rw [e2] at e
  exact e
theorem kwd_binds {K : PySem.W.Frag} {x p1 : Str} {st : Stmt} {f : Addr} {fd : FuncData} (F : FnP K x st f fd) (h : ∀ (kV doc pm : Value) (an : Option Addr) (cdv ct : Value) (v : Value), bindArgs (PySem.W.fnOf x x (L2.defArgs st) (L2.defBody st) (L2.defScope st) .none kV doc pm an cdv ct) ⟨[], [(p1, v)]⟩ = pure [(p1, v)]) :
    ∀ (s : Shared) (v : Value), K.In s.heap → BindsTo s fd ⟨[], [(p1, v)]⟩ [(p1, v)] := by
  obtain ⟨oc, od, dV, kV, doc, pm, an, cdv, ct, osl, rfl, lk, hcd, hD, hK⟩ := F.ex
  rcases hD with ⟨_, rfl⟩ | ⟨e, _⟩
  · exact fun s v _ => .of_eq (h kV doc pm an cdv ct v)
  · exact absurd rfl e
theorem facts {P : Program} {w : World} {K : PySem.W.Frag} {h : Heap} {mg : Str → Option Value} {f : Addr} (X : K.In h) (G : h.Ns mainGlobals mg) (hfa : mg ("law" : Str) = some (.ref f)) (cT : He.SaysT faL fnL tsL w K) (cL : exL K = true) :
    ∃ fd : FuncData, (∀ (s : Shared) (v : Value), BindsTo s fd ⟨[v], []⟩ [("script", v)]) ∧ ∀ base : Heap, K.In base → base.Ns mainGlobals mg → FnOk P w K mg base L2.CX0 14 f fd ["script"] (spLaw K) := by
  have c := cT.d
  obtain ⟨x1, cL⟩ := He.ba cL
  obtain ⟨x2, cL⟩ := He.ba cL
  obtain ⟨x3, cL⟩ := He.ba cL
  obtain ⟨x4, cL⟩ := He.ba cL
  obtain ⟨x5, cL⟩ := He.ba cL
  obtain ⟨x6, x7⟩ := He.ba cL
  obtain ⟨y1, y2⟩ := He.ba x2
  obtain ⟨a1, x3⟩ := He.ba x3
  obtain ⟨a2, a3⟩ := He.ba x3
  obtain ⟨k1, x4⟩ := He.ba x4
  obtain ⟨k2, x4⟩ := He.ba x4
  obtain ⟨k3, x4⟩ := He.ba x4
  obtain ⟨k4, k5⟩ := He.ba x4
  obtain ⟨fd0, F0⟩ := c.def_ 0 (d := dIsNameSign) rfl
  obtain ⟨fd1, F1⟩ := c.def_ 1 (d := dIsName) rfl
  obtain ⟨fd2, F2⟩ := c.def_ 2 (d := dIsClassName) rfl
  obtain ⟨fd3, F3⟩ := c.def_ 3 (d := dFieldEnd) rfl
  obtain ⟨fd4, F4⟩ := c.def_ 4 (d := dIsFieldDescriptor) rfl
  obtain ⟨fd5, F5⟩ := c.def_ 5 (d := dPlacesOf) rfl
  obtain ⟨fd6, F6⟩ := c.def_ 6 (d := dMethodParts) rfl
  obtain ⟨fd7, F7⟩ := c.def_ 7 (d := dIsInteger) rfl
  obtain ⟨fd8, F8⟩ := c.def_ 8 (d := dIsRow) rfl
  obtain ⟨fd9, F9⟩ := c.def_ 9 (d := dIsTupleOf) rfl
  obtain ⟨fd10, F10⟩ := c.def_ 10 (d := dIsWithin) rfl
  obtain ⟨fd11, F11⟩ := c.def_ 11 (d := dIsRowOfFlags) rfl
  obtain ⟨fd12, F12⟩ := c.def_ 12 (d := dInOrder) rfl
  obtain ⟨fd13, F13⟩ := c.def_ 13 (d := dIsText) rfl
  obtain ⟨fd14, F14⟩ := c.def_ 14 (d := dIsString) rfl
  obtain ⟨fd15, F15⟩ := c.def_ 15 (d := dIsConstant) rfl
  obtain ⟨fd16, F16⟩ := c.def_ 16 (d := dIsMethodName) rfl
  obtain ⟨fd17, F17⟩ := c.def_ 17 (d := dIsMethodDescriptor) rfl
  obtain ⟨fd18, F18⟩ := c.def_ 18 (d := dIsField) rfl
  obtain ⟨fd19, F19⟩ := c.def_ 19 (d := dIsMethod) rfl
  obtain ⟨fd20, F20⟩ := c.def_ 20 (d := dKeptInterfaces) rfl
  obtain ⟨fd21, F21⟩ := c.def_ 21 (d := dKeptMembers) rfl
  obtain ⟨fd22, F22⟩ := c.def_ 22 (d := dClassFileInit) rfl
  obtain ⟨fd23, F23⟩ := c.def_ 23 (d := dLawWell) rfl
  obtain ⟨fd24, F24⟩ := c.def_ 24 (d := dLawDraw) rfl
  obtain ⟨fd25, F25⟩ := c.def_ 25 (d := dLawOne) rfl
  obtain ⟨fd26, F26⟩ := c.def_ 26 (d := dLawWords) rfl
  obtain ⟨fd27, F27⟩ := c.def_ 27 (d := dLawAllWords) rfl
  obtain ⟨fd28, F28⟩ := c.def_ 28 (d := dLawFlags) rfl
  obtain ⟨fd29, F29⟩ := c.def_ 29 (d := dLawAccesses) rfl
  obtain ⟨fd30, F30⟩ := c.def_ 30 (d := dLawFlagsBad) rfl
  obtain ⟨fd31, F31⟩ := c.def_ 31 (d := dLawFits) rfl
  obtain ⟨fd32, F32⟩ := c.def_ 32 (d := dLawFieldDue) rfl
  obtain ⟨fd33, F33⟩ := c.def_ 33 (d := dLawClassDue) rfl
  obtain ⟨fd34, F34⟩ := c.def_ 34 (d := dLawMade) rfl
  obtain ⟨fd35, F35⟩ := c.def_ 35 (d := dStandAhead) rfl
  obtain ⟨fd36, F36⟩ := c.def_ 36 (d := dHasClassFlags) rfl
  obtain ⟨fd37, F37⟩ := c.def_ 37 (d := dHasRightParent) rfl
  obtain ⟨fd38, F38⟩ := c.def_ 38 (d := dFaultOfClass) rfl
  obtain ⟨fd39, F39⟩ := c.def_ 39 (d := dHasOneAccess) rfl
  obtain ⟨fd40, F40⟩ := c.def_ 40 (d := dHasFieldFlags) rfl
  obtain ⟨fd41, F41⟩ := c.def_ 41 (d := dHasRightConstant) rfl
  obtain ⟨fd42, F42⟩ := c.def_ 42 (d := dFaultOfFields) rfl
  obtain ⟨fd43, F43⟩ := c.def_ 43 (d := dParameters) rfl
  obtain ⟨fd44, F44⟩ := c.def_ 44 (d := dResult) rfl
  obtain ⟨fd45, F45⟩ := c.def_ 45 (d := dMayStandInInterface) rfl
  obtain ⟨fd46, F46⟩ := c.def_ 46 (d := dHasMethodFlags) rfl
  obtain ⟨fd47, F47⟩ := c.def_ 47 (d := dHasRightResult) rfl
  obtain ⟨fd48, F48⟩ := c.def_ 48 (d := dHasCodeAsTold) rfl
  obtain ⟨fd49, F49⟩ := c.def_ 49 (d := dHasRoom) rfl
  obtain ⟨fd50, F50⟩ := c.def_ 50 (d := dWordForMethod) rfl
  obtain ⟨fd51, F51⟩ := c.def_ 51 (d := dFaultOfMethods) rfl
  obtain ⟨fd52, F52⟩ := c.def_ 52 (d := dFault) rfl
  obtain ⟨fd53, F53⟩ := c.def_ 53 (d := dLawSaid) rfl
  obtain ⟨fd54, F54⟩ := c.def_ 54 (d := dAgrees) rfl
  obtain ⟨fd55, F55⟩ := c.def_ 55 (d := dAscends) rfl
  obtain ⟨fd56, F56⟩ := c.def_ 56 (d := dHasRightPairs) rfl
  obtain ⟨fd57, F57⟩ := c.def_ 57 (d := dKept) rfl
  obtain ⟨fd58, F58⟩ := c.def_ 58 (d := dTargets) rfl
  obtain ⟨fd59, F59⟩ := c.def_ 59 (d := dIsInstruction) rfl
  obtain ⟨fd60, F60⟩ := c.def_ 60 (d := dKeptRows) rfl
  obtain ⟨fd61, F61⟩ := c.def_ 61 (d := dKeptHandlers) rfl
  obtain ⟨fd62, F62⟩ := c.def_ 62 (d := dKeptFrames) rfl
  obtain ⟨fd63, F63⟩ := c.def_ 63 (d := dCodeInit) rfl
  obtain ⟨fd64, F64⟩ := c.def_ 64 (d := dUncutInit) rfl
  obtain ⟨fd65, F65⟩ := c.def_ 65 (d := dLawMethod) rfl
  obtain ⟨fd66, F66⟩ := c.def_ 66 (d := dLawField) rfl
  obtain ⟨fd67, F67⟩ := c.def_ 67 (d := dLawPlan) rfl
  obtain ⟨fd68, F68⟩ := c.def_ 68 (d := dLawMethodDue) rfl
  obtain ⟨fd69, F69⟩ := c.def_ 69 (d := dLawDue) rfl
  obtain ⟨fd70, F70⟩ := c.def_ 70 (d := dClassFileEq) rfl
  obtain ⟨fd71, F71⟩ := c.def_ 71 (d := dLawRight) rfl
  obtain ⟨fd72, F72⟩ := c.def_ 72 (d := dLaw) rfl
  have B : Bt mg := ⟨He.free_ok X G (c.fact 69 (f := .free "isinstance") rfl), He.free_ok X G (c.fact 70 (f := .free "str") rfl), He.free_ok X G (c.fact 71 (f := .free "len") rfl), He.free_ok X G (c.fact 72 (f := .free "all") rfl), He.free_ok X G (c.fact 73 (f := .free "sum") rfl), He.free_ok X G (c.fact 74 (f := .free "int") rfl), He.free_ok X G (c.fact 75 (f := .free "range") rfl), He.free_ok X G (c.fact 76 (f := .free "bool") rfl), He.free_ok X G (c.fact 77 (f := .free "list") rfl), He.free_ok X G (c.fact 78 (f := .free "tuple") rfl), He.free_ok X G (c.fact 79 (f := .free "set") rfl), He.free_ok X G (c.fact 80 (f := .free "ord") rfl), He.free_ok X G (c.fact 81 (f := .free "sorted") rfl), He.free_ok X G (c.fact 82 (f := .free "enumerate") rfl), He.free_ok X G (c.fact 83 (f := .free "any") rfl), He.free_ok X G (c.fact 84 (f := .free "max") rfl), He.free_ok X G (c.fact 85 (f := .free "zip") rfl)⟩
  have g_LONGEST_NAME : ∃ t, mg "LONGEST_NAME" = some (.int 30 t) := He.int_ok X G (c.fact 86 (f := .int "LONGEST_NAME" 30) rfl)
  have g_LONGEST_CLASS_NAME : ∃ t, mg "LONGEST_CLASS_NAME" = some (.int 60 t) := He.int_ok X G (c.fact 87 (f := .int "LONGEST_CLASS_NAME" 60) rfl)
  have g_MOST_BRACKETS : ∃ t, mg "MOST_BRACKETS" = some (.int 5 t) := He.int_ok X G (c.fact 88 (f := .int "MOST_BRACKETS" 5) rfl)
  have g_MOST_PARAMETER_PLACES : ∃ t, mg "MOST_PARAMETER_PLACES" = some (.int 254 t) := He.int_ok X G (c.fact 89 (f := .int "MOST_PARAMETER_PLACES" 254) rfl)
  have g_MOST_PLACES : ∃ t, mg "MOST_PLACES" = some (.int 255 t) := He.int_ok X G (c.fact 90 (f := .int "MOST_PLACES" 255) rfl)
  have g_MOST_ROWS : ∃ t, mg "MOST_ROWS" = some (.int 65535 t) := He.int_ok X G (c.fact 91 (f := .int "MOST_ROWS" 65535) rfl)
  have g_LONGEST_STRING : ∃ t, mg "LONGEST_STRING" = some (.int 200 t) := He.int_ok X G (c.fact 92 (f := .int "LONGEST_STRING" 200) rfl)
  have g_LEAST_LONG : ∃ t, mg "LEAST_LONG" = some (.int (-9223372036854775808) t) := He.int_ok X G (c.fact 93 (f := .int "LEAST_LONG" (-9223372036854775808)) rfl)
  have g_GREATEST_LONG : ∃ t, mg "GREATEST_LONG" = some (.int 9223372036854775807 t) := He.int_ok X G (c.fact 94 (f := .int "GREATEST_LONG" 9223372036854775807) rfl)
  have gSig : ∃ z t, z = SX.S signsL ∧ mg "SIGNS" = some (.str z t) := by
    obtain ⟨t, e⟩ := He.str_ok X G (c.fact 95 (f := .str "SIGNS" (SX.S signsL)) rfl)
    exact ⟨_, t, rfl, e⟩
  have t_OF_CLASSES : GT K mg "OF_CLASSES" four := ⟨_, (He.glo_ok X G (c.fact 96 (f := .glo "OF_CLASSES") rfl)), fun H => tups_ok x1 (q := ("OF_CLASSES", four)) (by decide +kernel) H⟩
  have t_ACCESS : GT K mg "ACCESS" acc3 := ⟨_, (He.glo_ok X G (c.fact 97 (f := .glo "ACCESS") rfl)), fun H => tups_ok x1 (q := ("ACCESS", acc3)) (by decide +kernel) H⟩
  have t_OF_FIELDS : GT K mg "OF_FIELDS" five := ⟨_, (He.glo_ok X G (c.fact 98 (f := .glo "OF_FIELDS") rfl)), fun H => tups_ok x1 (q := ("OF_FIELDS", five)) (by decide +kernel) H⟩
  have t_OF_INTERFACE_FIELDS : GT K mg "OF_INTERFACE_FIELDS" wideF := ⟨_, (He.glo_ok X G (c.fact 99 (f := .glo "OF_INTERFACE_FIELDS") rfl)), fun H => tups_ok x1 (q := ("OF_INTERFACE_FIELDS", wideF)) (by decide +kernel) H⟩
  have t_NOT_WITH_ABSTRACT : GT K mg "NOT_WITH_ABSTRACT" nwa := ⟨_, (He.glo_ok X G (c.fact 100 (f := .glo "NOT_WITH_ABSTRACT") rfl)), fun H => tups_ok x1 (q := ("NOT_WITH_ABSTRACT", nwa)) (by decide +kernel) H⟩
  have t_NOT_IN_INTERFACES : GT K mg "NOT_IN_INTERFACES" nii := ⟨_, (He.glo_ok X G (c.fact 101 (f := .glo "NOT_IN_INTERFACES") rfl)), fun H => tups_ok x1 (q := ("NOT_IN_INTERFACES", nii)) (by decide +kernel) H⟩
  have t_OF_INTS : GT K mg "OF_INTS" ints5 := ⟨_, (He.glo_ok X G (c.fact 102 (f := .glo "OF_INTS") rfl)), fun H => tups_ok x1 (q := ("OF_INTS", ints5)) (by decide +kernel) H⟩
  have t_UNCUT_WORDS : GT K mg "UNCUT_WORDS" uw := ⟨_, (He.glo_ok X G (c.fact 103 (f := .glo "UNCUT_WORDS") rfl)), fun H => tups_ok x1 (q := ("UNCUT_WORDS", uw)) (by decide +kernel) H⟩
  have t_FLAGS : GT K mg "FLAGS" flags9 := ⟨_, (He.glo_ok X G (c.fact 104 (f := .glo "FLAGS") rfl)), fun H => tups_ok x1 (q := ("FLAGS", flags9)) (by decide +kernel) H⟩
  have gFlg : Flg K mg := t_FLAGS
  have gLet : Letters K mg := ⟨_, (He.glo_ok X G (c.fact 105 (f := .glo "LETTERS") rfl)), fun H => by
    have e := tups_ok x1 (q := ("LETTERS", ["Z", "B", "S", "C", "I", "J"])) (by decide +kernel) H
    have e2 : (["Z", "B", "S", "C", "I", "J"] : List Str).map V.str = letters.map fun c => V.str (SX.S [c]) := by decide +kernel
    rw [← e2]
    exact e⟩
  have cClassFile : Cls K (cl K "ClassFile") := He.cls_ok (c.fact 113 (f := .cls "ClassFile") rfl)
  have cCode : Cls K (cl K "Code") := He.cls_ok (c.fact 114 (f := .cls "Code") rfl)
  have cUncut : Cls K (cl K "Uncut") := He.cls_ok (c.fact 115 (f := .cls "Uncut") rfl)
  have iCF := insB_ok cClassFile x5
  have iCo := insB_ok cCode x6
  have iUn := insB_ok cUncut x7
  have noCF : ∀ f ∈ (["name", "parent", "interfaces", "flags", "fields", "methods"] : List Str), NoAttr K (cl K "ClassFile") f := fun f hf => by
    rcases List.mem_cons.mp hf with rfl | hf
    · exact (show NoAttr K (cl K "ClassFile") "name" from He.noat_ok (c.fact 116 (f := .noat "ClassFile" "name") rfl))
    rcases List.mem_cons.mp hf with rfl | hf
    · exact (show NoAttr K (cl K "ClassFile") "parent" from He.noat_ok (c.fact 117 (f := .noat "ClassFile" "parent") rfl))
    rcases List.mem_cons.mp hf with rfl | hf
    · exact (show NoAttr K (cl K "ClassFile") "interfaces" from He.noat_ok (c.fact 118 (f := .noat "ClassFile" "interfaces") rfl))
    rcases List.mem_cons.mp hf with rfl | hf
    · exact (show NoAttr K (cl K "ClassFile") "flags" from He.noat_ok (c.fact 119 (f := .noat "ClassFile" "flags") rfl))
    rcases List.mem_cons.mp hf with rfl | hf
    · exact (show NoAttr K (cl K "ClassFile") "fields" from He.noat_ok (c.fact 120 (f := .noat "ClassFile" "fields") rfl))
    rcases List.mem_cons.mp hf with rfl | hf
    · exact (show NoAttr K (cl K "ClassFile") "methods" from He.noat_ok (c.fact 121 (f := .noat "ClassFile" "methods") rfl))
    · cases hf
  have noCo : ∀ f ∈ (["stack", "places", "rows", "handlers", "frames"] : List Str), NoAttr K (cl K "Code") f := fun f hf => by
    rcases List.mem_cons.mp hf with rfl | hf
    · exact (show NoAttr K (cl K "Code") "stack" from He.noat_ok (c.fact 122 (f := .noat "Code" "stack") rfl))
    rcases List.mem_cons.mp hf with rfl | hf
    · exact (show NoAttr K (cl K "Code") "places" from He.noat_ok (c.fact 123 (f := .noat "Code" "places") rfl))
    rcases List.mem_cons.mp hf with rfl | hf
    · exact (show NoAttr K (cl K "Code") "rows" from He.noat_ok (c.fact 124 (f := .noat "Code" "rows") rfl))
    rcases List.mem_cons.mp hf with rfl | hf
    · exact (show NoAttr K (cl K "Code") "handlers" from He.noat_ok (c.fact 125 (f := .noat "Code" "handlers") rfl))
    rcases List.mem_cons.mp hf with rfl | hf
    · exact (show NoAttr K (cl K "Code") "frames" from He.noat_ok (c.fact 126 (f := .noat "Code" "frames") rfl))
    · cases hf
  have noUn : ∀ f ∈ (["why", "at"] : List Str), NoAttr K (cl K "Uncut") f := fun f hf => by
    rcases List.mem_cons.mp hf with rfl | hf
    · exact (show NoAttr K (cl K "Uncut") "why" from He.noat_ok (c.fact 127 (f := .noat "Uncut" "why") rfl))
    rcases List.mem_cons.mp hf with rfl | hf
    · exact (show NoAttr K (cl K "Uncut") "at" from He.noat_ok (c.fact 128 (f := .noat "Uncut" "at") rfl))
    · cases hf
  have cfk : CFK K := ⟨cClassFile, noCF, of_decide_eq_true a1, of_decide_eq_true a2⟩
  have cfi : CFI K mg := ⟨(He.glo_ok X G (c.fact 108 (f := .glo "ClassFile") rfl)), iCF⟩
  have ckk : CKK K := ⟨cCode, noCo, cUncut, noUn⟩
  have cu2 : CU2 K mg := ⟨⟨(He.glo_ok X G (c.fact 109 (f := .glo "Code") rfl)), (He.glo_ok X G (c.fact 110 (f := .glo "Uncut") rfl)), iCo, iUn, of_decide_eq_true k4⟩, cCode, noCo _ (by decide), of_decide_eq_true k5⟩
  have kf : KF K := ⟨fun T hT => of_decide_eq_true (List.all_eq_true.mp k1 T hT), of_decide_eq_true k2, of_decide_eq_true k3⟩
  obtain ⟨n1, n2, n3, n4⟩ := He.exc_ok (c.fact 133 (f := .exc "NoFile") rfl)
  have nof : NoF K mg (He.ga K "NoFile") := ⟨(He.glo_ok X G (c.fact 111 (f := .glo "NoFile") rfl)), n1, n2, n3, n4, He.exm_ok (c.fact 134 (f := .exm "NoFile" "NoFile" true) rfl)⟩
  have gTE : ∃ T, mg "TypegateError" = some (.ref T) := ⟨_, (He.glo_ok X G (c.fact 112 (f := .glo "TypegateError") rfl))⟩
  obtain ⟨esA, nA, DA⟩ := cT.tab 0 (t := (fun K => He.ga K "ARGUMENTS", keysA)) rfl
  obtain ⟨esB, nB, DB⟩ := cT.tab 1 (t := (fun K => He.ga K "BOUNDS", keysB)) rfl
  have args : Args K w mg := ⟨_, esA, nA, (He.glo_ok X G (c.fact 106 (f := .glo "ARGUMENTS") rfl)), DA, fun z hz => isTup_ok (List.all_eq_true.mp y1 z hz)⟩
  have bnd : Bnd K w mg := by
    obtain ⟨t, e, hT⟩ := isTup_ok y2
    exact ⟨_, t, (He.glo_ok X G (c.fact 107 (f := .glo "BOUNDS") rfl)), ⟨esB, nB, _, DB.at_, DB.lit, e, rfl⟩, hT⟩
  have b0 : Binds K fd0 ["sign"] [] := F0.bindsN fun _ _ _ _ _ _ us hl => match us, hl with | [_], _ => rfl
  have b1 : Binds K fd1 ["thing"] [] := F1.bindsN fun _ _ _ _ _ _ us hl => match us, hl with | [_], _ => rfl
  have b2 : Binds K fd2 ["thing"] [] := F2.bindsN fun _ _ _ _ _ _ us hl => match us, hl with | [_], _ => rfl
  have b3 : Binds K fd3 ["text", "begin"] [] := F3.bindsN fun _ _ _ _ _ _ us hl => match us, hl with | [_, _], _ => rfl
  have b4 : Binds K fd4 ["thing"] [] := F4.bindsN fun _ _ _ _ _ _ us hl => match us, hl with | [_], _ => rfl
  have b5 : Binds K fd5 ["descriptors"] [] := F5.bindsN fun _ _ _ _ _ _ us hl => match us, hl with | [_], _ => rfl
  have b6 : Binds K fd6 ["thing"] [] := F6.bindsN fun _ _ _ _ _ _ us hl => match us, hl with | [_], _ => rfl
  have b7 : Binds K fd7 ["thing"] [] := F7.bindsN fun _ _ _ _ _ _ us hl => match us, hl with | [_], _ => rfl
  have b8 : Binds K fd8 ["thing"] [] := F8.bindsN fun _ _ _ _ _ _ us hl => match us, hl with | [_], _ => rfl
  have b9 : Binds K fd9 ["thing", "many"] [] := F9.bindsN fun _ _ _ _ _ _ us hl => match us, hl with | [_, _], _ => rfl
  have b10 : Binds K fd10 ["thing", "low", "high"] [] := F10.bindsN fun _ _ _ _ _ _ us hl => match us, hl with | [_, _, _], _ => rfl
  have b11 : Binds K fd11 ["thing"] [] := F11.bindsN fun _ _ _ _ _ _ us hl => match us, hl with | [_], _ => rfl
  have b12 : Binds K fd12 ["flags"] [] := F12.bindsN fun _ _ _ _ _ _ us hl => match us, hl with | [_], _ => rfl
  have b13 : Binds K fd13 ["thing"] [] := F13.bindsN fun _ _ _ _ _ _ us hl => match us, hl with | [_], _ => rfl
  have b14 : Binds K fd14 ["thing"] [] := F14.bindsN fun _ _ _ _ _ _ us hl => match us, hl with | [_], _ => rfl
  have b15 : Binds K fd15 ["thing"] [] := F15.bindsN fun _ _ _ _ _ _ us hl => match us, hl with | [_], _ => rfl
  have b16 : Binds K fd16 ["thing"] [] := F16.bindsN fun _ _ _ _ _ _ us hl => match us, hl with | [_], _ => rfl
  have b17 : Binds K fd17 ["thing"] [] := F17.bindsN fun _ _ _ _ _ _ us hl => match us, hl with | [_], _ => rfl
  have b18 : Binds K fd18 ["member"] [] := F18.bindsN fun _ _ _ _ _ _ us hl => match us, hl with | [_], _ => rfl
  have b19 : Binds K fd19 ["member"] [] := F19.bindsN fun _ _ _ _ _ _ us hl => match us, hl with | [_], _ => rfl
  have b20 : Binds K fd20 ["interfaces"] [] := F20.bindsN fun _ _ _ _ _ _ us hl => match us, hl with | [_], _ => rfl
  have b21 : Binds K fd21 ["members", "word", "is_member"] [] := F21.bindsN fun _ _ _ _ _ _ us hl => match us, hl with | [_, _, _], _ => rfl
  have b22 : Binds K fd22 ["self", "name", "parent", "interfaces", "flags", "fields", "methods"] [] := F22.bindsN fun _ _ _ _ _ _ us hl => match us, hl with | [_, _, _, _, _, _, _], _ => rfl
  have b23 : Binds K fd23 ["cell"] [] := F23.bindsN fun _ _ _ _ _ _ us hl => match us, hl with | [_], _ => rfl
  have b24 : Binds K fd24 ["well", "many"] [] := F24.bindsN fun _ _ _ _ _ _ us hl => match us, hl with | [_, _], _ => rfl
  have b25 : Binds K fd25 ["well", "some"] [] := F25.bindsN fun _ _ _ _ _ _ us hl => match us, hl with | [_, _], _ => rfl
  have b26 : Binds K fd26 ["well", "words"] [] := F26.bindsN fun _ _ _ _ _ _ us hl => match us, hl with | [_, _], _ => rfl
  have b27 : Binds K fd27 [] [] := F27.bindsN fun _ _ _ _ _ _ us hl => match us, hl with | [], _ => rfl
  have b28 : Binds K fd28 ["well", "good"] [] := F28.bindsN fun _ _ _ _ _ _ us hl => match us, hl with | [_, _], _ => rfl
  have b29 : Binds K fd29 ["flags"] [] := F29.bindsN fun _ _ _ _ _ _ us hl => match us, hl with | [_], _ => rfl
  have b30 : Binds K fd30 ["is_wide", "name", "flags"] [] := F30.bindsN fun _ _ _ _ _ _ us hl => match us, hl with | [_, _, _], _ => rfl
  have b31 : Binds K fd31 ["descriptor", "constant"] [] := F31.bindsN fun _ _ _ _ _ _ us hl => match us, hl with | [_, _], _ => rfl
  have b32 : Binds K fd32 ["is_wide", "field", "ahead"] [] := F32.bindsN fun _ _ _ _ _ _ us hl => match us, hl with | [_, _, _], _ => rfl
  have b33 : Binds K fd33 ["plan"] [] := F33.bindsN fun _ _ _ _ _ _ us hl => match us, hl with | [_], _ => rfl
  have b34 : Binds K fd34 ["plan"] [] := F34.bindsN fun _ _ _ _ _ _ us hl => match us, hl with | [_], _ => rfl
  have b35 : Binds K fd35 ["things"] [] := F35.bindsN fun _ _ _ _ _ _ us hl => match us, hl with | [_], _ => rfl
  have b36 : Binds K fd36 ["flags"] [] := F36.bindsN fun _ _ _ _ _ _ us hl => match us, hl with | [_], _ => rfl
  have b37 : Binds K fd37 ["file"] [] := F37.bindsN fun _ _ _ _ _ _ us hl => match us, hl with | [_], _ => rfl
  have b38 : Binds K fd38 ["file"] [] := F38.bindsN fun _ _ _ _ _ _ us hl => match us, hl with | [_], _ => rfl
  have b39 : Binds K fd39 ["flags"] [] := F39.bindsN fun _ _ _ _ _ _ us hl => match us, hl with | [_], _ => rfl
  have b40 : Binds K fd40 ["field", "in_interface"] [] := F40.bindsN fun _ _ _ _ _ _ us hl => match us, hl with | [_, _], _ => rfl
  have b41 : Binds K fd41 ["field"] [] := F41.bindsN fun _ _ _ _ _ _ us hl => match us, hl with | [_], _ => rfl
  have b42 : Binds K fd42 ["file"] [] := F42.bindsN fun _ _ _ _ _ _ us hl => match us, hl with | [_], _ => rfl
  have b43 : Binds K fd43 ["descriptor"] [] := F43.bindsN fun _ _ _ _ _ _ us hl => match us, hl with | [_], _ => rfl
  have b44 : Binds K fd44 ["descriptor"] [] := F44.bindsN fun _ _ _ _ _ _ us hl => match us, hl with | [_], _ => rfl
  have b45 : Binds K fd45 ["flags"] [] := F45.bindsN fun _ _ _ _ _ _ us hl => match us, hl with | [_], _ => rfl
  have b46 : Binds K fd46 ["method", "in_interface"] [] := F46.bindsN fun _ _ _ _ _ _ us hl => match us, hl with | [_, _], _ => rfl
  have b47 : Binds K fd47 ["method"] [] := F47.bindsN fun _ _ _ _ _ _ us hl => match us, hl with | [_], _ => rfl
  have b48 : Binds K fd48 ["method"] [] := F48.bindsN fun _ _ _ _ _ _ us hl => match us, hl with | [_], _ => rfl
  have b49 : Binds K fd49 ["method"] [] := F49.bindsN fun _ _ _ _ _ _ us hl => match us, hl with | [_], _ => rfl
  have b50 : Binds K fd50 ["method", "in_interface", "stands_ahead"] [] := F50.bindsN fun _ _ _ _ _ _ us hl => match us, hl with | [_, _, _], _ => rfl
  have b51 : Binds K fd51 ["file"] [] := F51.bindsN fun _ _ _ _ _ _ us hl => match us, hl with | [_], _ => rfl
  have b52 : Binds K fd52 ["file"] [] := F52.bindsN fun _ _ _ _ _ _ us hl => match us, hl with | [_], _ => rfl
  have b53 : Binds K fd53 ["thing"] [] := F53.bindsN fun _ _ _ _ _ _ us hl => match us, hl with | [_], _ => rfl
  have b54 : Binds K fd54 ["row"] [] := F54.bindsN fun _ _ _ _ _ _ us hl => match us, hl with | [_], _ => rfl
  have b55 : Binds K fd55 ["row"] [] := F55.bindsN fun _ _ _ _ _ _ us hl => match us, hl with | [_], _ => rfl
  have b56 : Binds K fd56 ["row"] [] := F56.bindsN fun _ _ _ _ _ _ us hl => match us, hl with | [_], _ => rfl
  have b57 : Binds K fd57 ["row"] [] := F57.bindsN fun _ _ _ _ _ _ us hl => match us, hl with | [_], _ => rfl
  have b58 : Binds K fd58 ["row"] [] := F58.bindsN fun _ _ _ _ _ _ us hl => match us, hl with | [_], _ => rfl
  have b59 : Binds K fd59 ["thing"] [] := F59.bindsN fun _ _ _ _ _ _ us hl => match us, hl with | [_], _ => rfl
  have b60 : Binds K fd60 ["rows"] [] := F60.bindsN fun _ _ _ _ _ _ us hl => match us, hl with | [_], _ => rfl
  have b61 : Binds K fd61 ["handlers", "many"] [] := F61.bindsN fun _ _ _ _ _ _ us hl => match us, hl with | [_, _], _ => rfl
  have b62 : Binds K fd62 ["frames", "many"] [] := F62.bindsN fun _ _ _ _ _ _ us hl => match us, hl with | [_, _], _ => rfl
  have b63 : Binds K fd63 ["self", "stack", "places", "rows", "handlers", "frames"] [] := F63.bindsN fun _ _ _ _ _ _ us hl => match us, hl with | [_, _, _, _, _, _], _ => rfl
  have b64 : Binds K fd64 ["self", "why", "at"] [] := F64.bindsN fun _ _ _ _ _ _ us hl => match us, hl with | [_, _, _], _ => rfl
  have b65 : Binds K fd65 ["well", "is_wide"] [] := F65.bindsN fun _ _ _ _ _ _ us hl => match us, hl with | [_, _], _ => rfl
  have b66 : Binds K fd66 ["well", "is_wide"] [] := F66.bindsN fun _ _ _ _ _ _ us hl => match us, hl with | [_, _], _ => rfl
  have b67 : Binds K fd67 ["well"] [] := F67.bindsN fun _ _ _ _ _ _ us hl => match us, hl with | [_], _ => rfl
  have b68 : Binds K fd68 ["is_wide", "method", "ahead"] [] := F68.bindsN fun _ _ _ _ _ _ us hl => match us, hl with | [_, _, _], _ => rfl
  have b69 : Binds K fd69 ["plan"] [] := F69.bindsN fun _ _ _ _ _ _ us hl => match us, hl with | [_], _ => rfl
  have b70 : Binds K fd70 ["self", "other"] [] := F70.bindsN fun _ _ _ _ _ _ us hl => match us, hl with | [_, _], _ => rfl
  have b71 : Binds K fd71 ["well"] [] := F71.bindsN fun _ _ _ _ _ _ us hl => match us, hl with | [_], _ => rfl
  have e := hfa.symm.trans (He.glo_ok X G (c.fact 68 (f := .glo "law") rfl))
  cases e
  have b := FunD.bindsA (ps := ["script"]) F72 fun _ _ _ _ _ _ us hl => match us, hl with | [_], _ => rfl
  refine ⟨fd72, fun s v => b s [v] rfl, fun base _ _ => ?_⟩
  have c_is_integer : Cl P w K mg base L2.CX0 1 "is_integer" ["thing"] spInt := ⟨_, fd7, ok_isInteger F7 B, (He.glo_ok X G (c.fact 7 (f := .glo "is_integer") rfl)), F7.kp, b7⟩
  have c_is_within : Cl P w K mg base L2.CX0 2 "is_within" ["thing", "low", "high"] spWithin := ⟨_, fd10, ok_isWithin F10 B c_is_integer, (He.glo_ok X G (c.fact 10 (f := .glo "is_within") rfl)), F10.kp, b10⟩
  have c_is_row : Cl P w K mg base L2.CX0 1 "is_row" ["thing"] (spRow K) := ⟨_, fd8, ok_isRow F8 B, (He.glo_ok X G (c.fact 8 (f := .glo "is_row") rfl)), F8.kp, b8⟩
  have c_agrees : Cl P w K mg base L2.CX0 1 "_agrees" ["row"] spIns := ⟨_, fd54, ok_agrees F54 B, (He.glo_ok X G (c.fact 53 (f := .glo "_agrees") rfl)), F54.kp, b54⟩
  have c_is_instruction : Cl P w K mg base L2.CX0 2 "is_instruction" ["thing"] spIns := ⟨_, fd59, ok_isInstruction F59 B args c_agrees, (He.glo_ok X G (c.fact 58 (f := .glo "is_instruction") rfl)), F59.kp, b59⟩
  have c_ascends : Cl P w K mg base L2.CX0 1 "ascends" ["row"] spIns := ⟨_, fd55, ok_ascends F55 B, (He.glo_ok X G (c.fact 54 (f := .glo "ascends") rfl)), F55.kp, b55⟩
  have c_has_right_pairs : Cl P w K mg base L2.CX0 2 "has_right_pairs" ["row"] spIns := ⟨_, fd56, ok_rightPairs F56 B c_ascends, (He.glo_ok X G (c.fact 55 (f := .glo "has_right_pairs") rfl)), F56.kp, b56⟩
  have c_targets : Cl P w K mg base L2.CX0 1 "targets" ["row"] spTargets := ⟨_, fd58, ok_targets F58 B args, (He.glo_ok X G (c.fact 57 (f := .glo "targets") rfl)), F58.kp, b58⟩
  have c_kept : Cl P w K mg base L2.CX0 1 "kept" ["row"] spKeptI := ⟨_, fd57, ok_kept F57 B, (He.glo_ok X G (c.fact 56 (f := .glo "kept") rfl)), F57.kp, b57⟩
  have c_kept_rows : Cl P w K mg base L2.CX0 3 "_kept_rows" ["rows"] spKRows := ⟨_, fd60, ok_keptRows F60 B g_MOST_ROWS c_is_row c_is_instruction c_has_right_pairs c_targets c_kept, (He.glo_ok X G (c.fact 59 (f := .glo "_kept_rows") rfl)), F60.kp, b60⟩
  have c_kept_handlers : Cl P w K mg base L2.CX0 2 "_kept_handlers" ["handlers", "many"] spKNone := ⟨_, fd61, ok_keptHandlers F61 B c_is_row, (He.glo_ok X G (c.fact 60 (f := .glo "_kept_handlers") rfl)), F61.kp, b61⟩
  have c_kept_frames : Cl P w K mg base L2.CX0 2 "_kept_frames" ["frames", "many"] spKNone := ⟨_, fd62, ok_keptFrames F62 B c_is_row, (He.glo_ok X G (c.fact 61 (f := .glo "_kept_frames") rfl)), F62.kp, b62⟩
  have mCo : MkCo P w K mg base := ⟨(He.glo_ok X G (c.fact 109 (f := .glo "Code") rfl)), _, fd63, He.mkr_ok (c.fact 130 (f := .mkr "Code") rfl), ok_codeI F63 B ckk g_MOST_PLACES c_is_within c_kept_rows c_kept_handlers c_kept_frames, b63⟩
  have mUn : MkUn P w K mg base := ⟨(He.glo_ok X G (c.fact 110 (f := .glo "Uncut") rfl)), _, fd64, He.mkr_ok (c.fact 131 (f := .mkr "Uncut") rfl), ok_uncI F64 B ckk t_UNCUT_WORDS c_is_integer, b64⟩
  have c_law_well : Cl P w K mg base L2.CX0 1 "_law_well" ["cell"] spWell := ⟨_, fd23, ok_lawWell F23 B, (He.glo_ok X G (c.fact 22 (f := .glo "_law_well") rfl)), F23.kp, b23⟩
  have eqm : EqM P w K mg base := ⟨_, fd70, (He.meth_ok (c.fact 132 (f := .meth "ClassFile" "__eq__") rfl)).at_, (He.meth_ok (c.fact 132 (f := .meth "ClassFile" "__eq__") rfl)).fn, ok_cfEq F70 B cfk cfi.g cfi.i, b70⟩
  have c_has_class_flags : Cl P w K mg base L2.CX0 1 "_has_class_flags" ["flags"] spHCF := ⟨_, fd36, ok_hasClassFlags F36 B t_OF_CLASSES, (He.glo_ok X G (c.fact 35 (f := .glo "_has_class_flags") rfl)), F36.kp, b36⟩
  have c_has_right_parent : Cl P w K mg base L2.CX0 1 "_has_right_parent" ["file"] (spHRP K) := ⟨_, fd37, ok_hasRightParent F37 B cfk, (He.glo_ok X G (c.fact 36 (f := .glo "_has_right_parent") rfl)), F37.kp, b37⟩
  have c_stand_ahead : Cl P w K mg base L2.CX0 1 "_stand_ahead" ["things"] (spAhead K) := ⟨_, fd35, ok_standAhead F35 B, (He.glo_ok X G (c.fact 34 (f := .glo "_stand_ahead") rfl)), F35.kp, b35⟩
  have c_fault_of_class : Cl P w K mg base L2.CX0 2 "_fault_of_class" ["file"] (spFClass K) := ⟨_, fd38, ok_faultOfClass F38 B cfk c_has_class_flags c_has_right_parent c_stand_ahead, (He.glo_ok X G (c.fact 37 (f := .glo "_fault_of_class") rfl)), F38.kp, b38⟩
  have c_has_one_access : Cl P w K mg base L2.CX0 1 "_has_one_access" ["flags"] spHOA := ⟨_, fd39, ok_hasOneAccess F39 B t_ACCESS, (He.glo_ok X G (c.fact 38 (f := .glo "_has_one_access") rfl)), F39.kp, b39⟩
  have c_has_field_flags : Cl P w K mg base L2.CX0 2 "_has_field_flags" ["field", "in_interface"] spHFF := ⟨_, fd40, ok_hasFieldFlags F40 B t_OF_INTERFACE_FIELDS t_OF_FIELDS c_has_one_access, (He.glo_ok X G (c.fact 39 (f := .glo "_has_field_flags") rfl)), F40.kp, b40⟩
  have c_has_right_constant : Cl P w K mg base L2.CX0 3 "_has_right_constant" ["field"] spHRC := ⟨_, fd41, ok_hasRightConstant F41 B t_OF_INTS bnd c_is_within c_is_integer, (He.glo_ok X G (c.fact 40 (f := .glo "_has_right_constant") rfl)), F41.kp, b41⟩
  have c_fault_of_fields : Cl P w K mg base L2.CX0 4 "_fault_of_fields" ["file"] (spFFields K) := ⟨_, fd42, ok_faultOfFields F42 B cfk c_stand_ahead c_has_field_flags c_has_right_constant, (He.glo_ok X G (c.fact 41 (f := .glo "_fault_of_fields") rfl)), F42.kp, b42⟩
  have c_may_stand_in_interface : Cl P w K mg base L2.CX0 1 "_may_stand_in_interface" ["flags"] (spHOA2 msi) := ⟨_, fd45, ok_mayStand F45 B t_NOT_IN_INTERFACES, (He.glo_ok X G (c.fact 44 (f := .glo "_may_stand_in_interface") rfl)), F45.kp, b45⟩
  have c_has_method_flags : Cl P w K mg base L2.CX0 2 "_has_method_flags" ["method", "in_interface"] spHMF := ⟨_, fd46, ok_hasMethodFlags F46 B t_ACCESS t_NOT_WITH_ABSTRACT c_has_one_access c_may_stand_in_interface, (He.glo_ok X G (c.fact 45 (f := .glo "_has_method_flags") rfl)), F46.kp, b46⟩
  have c_is_name_sign : Cl P w K mg base L2.CX0 1 "_is_name_sign" ["sign"] spSign := ⟨_, fd0, ok_sign F0, (He.glo_ok X G (c.fact 0 (f := .glo "_is_name_sign") rfl)), F0.kp, b0⟩
  have c_is_name : Cl P w K mg base L2.CX0 2 "is_name" ["thing"] (spName K isNameL) := ⟨_, fd1, ok_isName F1 B c_is_name_sign g_LONGEST_NAME, (He.glo_ok X G (c.fact 1 (f := .glo "is_name") rfl)), F1.kp, b1⟩
  have c_is_class_name : Cl P w K mg base L2.CX0 3 "is_class_name" ["thing"] (spName K isClassL) := ⟨_, fd2, ok_isClass F2 B c_is_name g_LONGEST_CLASS_NAME, (He.glo_ok X G (c.fact 2 (f := .glo "is_class_name") rfl)), F2.kp, b2⟩
  have c_field_end : Cl P w K mg base L2.CX0 4 "_field_end" ["text", "begin"] spFieldEnd := ⟨_, fd3, ok_fieldEnd F3 B c_is_class_name g_MOST_BRACKETS gLet, (He.glo_ok X G (c.fact 3 (f := .glo "_field_end") rfl)), F3.kp, b3⟩
  have c_is_field_descriptor : Cl P w K mg base L2.CX0 5 "is_field_descriptor" ["thing"] (spName K isFieldL) := ⟨_, fd4, ok_isField F4 B c_field_end, (He.glo_ok X G (c.fact 4 (f := .glo "is_field_descriptor") rfl)), F4.kp, b4⟩
  have c_places_of : Cl P w K mg base L2.CX0 1 "places_of" ["descriptors"] (spPlaces K) := ⟨_, fd5, ok_places F5 B, (He.glo_ok X G (c.fact 5 (f := .glo "places_of") rfl)), F5.kp, b5⟩
  have c_method_parts : Cl P w K mg base L2.CX0 6 "_method_parts" ["thing"] (spParts K) := ⟨_, fd6, ok_parts F6 B c_field_end c_is_field_descriptor c_places_of g_MOST_PARAMETER_PLACES, (He.glo_ok X G (c.fact 6 (f := .glo "_method_parts") rfl)), F6.kp, b6⟩
  have c_result : Cl P w K mg base L2.CX0 7 "result" ["descriptor"] spResult := ⟨_, fd44, ok_result F44 B c_method_parts, (He.glo_ok X G (c.fact 43 (f := .glo "result") rfl)), F44.kp, b44⟩
  have c_has_right_result : Cl P w K mg base L2.CX0 8 "_has_right_result" ["method"] spHRR := ⟨_, fd47, ok_hasRightResult F47 B c_result, (He.glo_ok X G (c.fact 46 (f := .glo "_has_right_result") rfl)), F47.kp, b47⟩
  have c_has_code_as_told : Cl P w K mg base L2.CX0 1 "_has_code_as_told" ["method"] (spHCT K) := ⟨_, fd48, ok_hasCodeAsTold F48 B, (He.glo_ok X G (c.fact 47 (f := .glo "_has_code_as_told") rfl)), F48.kp, b48⟩
  have c_parameters : Cl P w K mg base L2.CX0 7 "parameters" ["descriptor"] spParams := ⟨_, fd43, ok_params F43 B c_method_parts, (He.glo_ok X G (c.fact 42 (f := .glo "parameters") rfl)), F43.kp, b43⟩
  have c_has_room : Cl P w K mg base L2.CX0 8 "_has_room" ["method"] (spRoom K) := ⟨_, fd49, ok_hasRoom F49 B cu2 c_parameters c_places_of, (He.glo_ok X G (c.fact 48 (f := .glo "_has_room") rfl)), F49.kp, b49⟩
  have c_word_for_method : Cl P w K mg base L2.CX0 9 "_word_for_method" ["method", "in_interface", "stands_ahead"] (spWord K) := ⟨_, fd50, ok_wordForMethod F50 B c_has_method_flags c_has_right_result c_has_code_as_told c_has_room, (He.glo_ok X G (c.fact 49 (f := .glo "_word_for_method") rfl)), F50.kp, b50⟩
  have c_fault_of_methods : Cl P w K mg base L2.CX0 10 "_fault_of_methods" ["file"] (spFMethods K) := ⟨_, fd51, ok_faultOfMethods F51 B cfk c_stand_ahead c_word_for_method, (He.glo_ok X G (c.fact 50 (f := .glo "_fault_of_methods") rfl)), F51.kp, b51⟩
  have ckf : ClK P w K mg base 11 "fault" "file" (spFault K) := ⟨_, fd52, ok_fault F52 B cfi c_fault_of_class c_fault_of_fields c_fault_of_methods, (He.glo_ok X G (c.fact 51 (f := .glo "fault") rfl)), F52.kp, kwd_binds (x := "fault") (p1 := "file") (st := sFault) F52 fun _ _ _ _ _ _ _ => rfl⟩
  have c_fault : Cl P w K mg base L2.CX0 11 "fault" ["file"] (spFault K) := ⟨_, fd52, ok_fault F52 B cfi c_fault_of_class c_fault_of_fields c_fault_of_methods, (He.glo_ok X G (c.fact 51 (f := .glo "fault") rfl)), F52.kp, b52⟩
  have c_law_draw : Cl P w K mg base L2.CX0 1 "_law_draw" ["well", "many"] spDraw := ⟨_, fd24, ok_lawDraw F24 B, (He.glo_ok X G (c.fact 23 (f := .glo "_law_draw") rfl)), F24.kp, b24⟩
  have c_law_one : Cl P w K mg base L2.CX0 2 "_law_one" ["well", "some"] spOne := ⟨_, fd25, ok_lawOne F25 B c_law_draw, (He.glo_ok X G (c.fact 24 (f := .glo "_law_one") rfl)), F25.kp, b25⟩
  have c_law_words : Cl P w K mg base L2.CX0 2 "_law_words" ["well", "words"] spWords := ⟨_, fd26, ok_lawWords F26 B c_law_draw, (He.glo_ok X G (c.fact 25 (f := .glo "_law_words") rfl)), F26.kp, b26⟩
  have c_law_all_words : Cl P w K mg base L2.CX0 1 "_law_all_words" [] spAllWords := ⟨_, fd27, ok_allWords F27 B, (He.glo_ok X G (c.fact 26 (f := .glo "_law_all_words") rfl)), F27.kp, b27⟩
  have c_law_flags : Cl P w K mg base L2.CX0 3 "_law_flags" ["well", "good"] spLFlags := ⟨_, fd28, ok_lawFlags F28 B c_law_draw c_law_one c_law_words c_law_all_words, (He.glo_ok X G (c.fact 27 (f := .glo "_law_flags") rfl)), F28.kp, b28⟩
  have c_law_field : Cl P w K mg base L2.CX0 4 "_law_field" ["well", "is_wide"] spLField := ⟨_, fd66, ok_lawField F66 B c_law_draw c_law_one c_law_flags, (He.glo_ok X G (c.fact 63 (f := .glo "_law_field") rfl)), F66.kp, b66⟩
  have c_law_method : Cl P w K mg base L2.CX0 6 "_law_method" ["well", "is_wide"] (spLMeth K) := ⟨_, fd65, ok_lawMethod F65 B mCo mUn c_law_draw c_law_one c_law_flags, (He.glo_ok X G (c.fact 62 (f := .glo "_law_method") rfl)), F65.kp, b65⟩
  have c_law_plan : Cl P w K mg base L2.CX0 7 "_law_plan" ["well"] (spLPlan K) := ⟨_, fd67, ok_lawPlan F67 B c_law_draw c_law_one c_law_flags c_law_words c_law_field c_law_method, (He.glo_ok X G (c.fact 64 (f := .glo "_law_plan") rfl)), F67.kp, b67⟩
  have c_kept_interfaces : Cl P w K mg base L2.CX0 4 "_kept_interfaces" ["interfaces"] spFaces := ⟨_, fd20, ok_keptInterfaces F20 B c_is_row c_is_class_name, (He.glo_ok X G (c.fact 20 (f := .glo "_kept_interfaces") rfl)), F20.kp, b20⟩
  have c_is_row_of_flags : Cl P w K mg base L2.CX0 2 "_is_row_of_flags" ["thing"] spFlags := ⟨_, fd11, ok_rowOfFlags F11 B gFlg c_is_row, (He.glo_ok X G (c.fact 11 (f := .glo "_is_row_of_flags") rfl)), F11.kp, b11⟩
  have c_in_order : Cl P w K mg base L2.CX0 1 "_in_order" ["flags"] spInOrder := ⟨_, fd12, ok_inOrder F12 B gFlg, (He.glo_ok X G (c.fact 12 (f := .glo "_in_order") rfl)), F12.kp, b12⟩
  have c_is_text : Cl P w K mg base L2.CX0 2 "is_text" ["thing"] spText := ⟨_, fd13, ok_isText F13 B gSig, (He.glo_ok X G (c.fact 13 (f := .glo "is_text") rfl)), F13.kp, b13⟩
  have c_is_string : Cl P w K mg base L2.CX0 3 "is_string" ["thing"] spString := ⟨_, fd14, ok_isString F14 B g_LONGEST_STRING c_is_text, (He.glo_ok X G (c.fact 14 (f := .glo "is_string") rfl)), F14.kp, b14⟩
  have c_is_constant : Cl P w K mg base L2.CX0 4 "_is_constant" ["thing"] spConst := ⟨_, fd15, ok_isConstant F15 B g_LEAST_LONG g_GREATEST_LONG c_is_within c_is_string, (He.glo_ok X G (c.fact 15 (f := .glo "_is_constant") rfl)), F15.kp, b15⟩
  have c_is_field : Cl P w K mg base L2.CX0 6 "_is_field" ["member"] spIsField := ⟨_, fd18, ok_isField2 F18 B c_is_name c_is_field_descriptor c_is_row_of_flags c_is_constant, (He.glo_ok X G (c.fact 18 (f := .glo "_is_field") rfl)), F18.kp, b18⟩
  have c_is_method_name : Cl P w K mg base L2.CX0 3 "is_method_name" ["thing"] spMName := ⟨_, fd16, ok_isMName F16 B c_is_name, (He.glo_ok X G (c.fact 16 (f := .glo "is_method_name") rfl)), F16.kp, b16⟩
  have c_is_method_descriptor : Cl P w K mg base L2.CX0 7 "is_method_descriptor" ["thing"] spMDesc := ⟨_, fd17, ok_isMDesc F17 B c_method_parts, (He.glo_ok X G (c.fact 17 (f := .glo "is_method_descriptor") rfl)), F17.kp, b17⟩
  have c_is_method : Cl P w K mg base L2.CX0 8 "_is_method" ["member"] (spIsMethod K) := ⟨_, fd19, ok_isMethod F19 B cu2.toCU c_is_method_name c_is_method_descriptor c_is_row_of_flags, (He.glo_ok X G (c.fact 19 (f := .glo "_is_method") rfl)), F19.kp, b19⟩
  have held : ∀ f sp, memS K (He.ga K "_is_field") (He.ga K "_is_method") f = some sp → Held P w K mg base 8 f sp := by
    intro f sp e
    unfold memS at e
    split at e
    · rename_i h
      subst h
      cases e
      exact ⟨fd18, ["member"], FnOk.mono (ok_isField2 F18 B c_is_name c_is_field_descriptor c_is_row_of_flags c_is_constant) (by decide), F18.kp, b18⟩
    · split at e
      · rename_i h
        subst h
        cases e
        exact ⟨fd19, ["member"], ok_isMethod F19 B cu2.toCU c_is_method_name c_is_method_descriptor c_is_row_of_flags, F19.kp, b19⟩
      · cases e
  have c_is_tuple_of : Cl P w K mg base L2.CX0 1 "is_tuple_of" ["thing", "many"] (spTupOf K) := ⟨_, fd9, ok_isTupleOf F9 B, (He.glo_ok X G (c.fact 9 (f := .glo "is_tuple_of") rfl)), F9.kp, b9⟩
  have c_kept_members : Cl P w K mg base L2.CX0 9 "_kept_members" ["members", "word", "is_member"] (spKept K (He.ga K "_is_field") (He.ga K "_is_method")) := ⟨_, fd21, ok_keptMembers F21 B held c_is_row c_is_tuple_of c_in_order, (He.glo_ok X G (c.fact 21 (f := .glo "_kept_members") rfl)), F21.kp, b21⟩
  have mCF : MkCF P w K mg base := ⟨(He.glo_ok X G (c.fact 108 (f := .glo "ClassFile") rfl)), _, fd22, He.mkr_ok (c.fact 129 (f := .mkr "ClassFile") rfl), ok_classFile F22 B cfk (He.glo_ok X G (c.fact 18 (f := .glo "_is_field") rfl)) (He.glo_ok X G (c.fact 19 (f := .glo "_is_method") rfl)) (of_decide_eq_true a3) c_is_class_name c_kept_interfaces c_is_row_of_flags c_in_order c_kept_members, b22⟩
  have c_law_made : Cl P w K mg base L2.CX0 12 "_law_made" ["plan"] (spMade K) := ⟨_, fd34, ok_lawMade F34 B mCF, (He.glo_ok X G (c.fact 33 (f := .glo "_law_made") rfl)), F34.kp, b34⟩
  have c_law_class_due : Cl P w K mg base L2.CX0 1 "_law_class_due" ["plan"] spClassDue := ⟨_, fd33, ok_classDue F33 B, (He.glo_ok X G (c.fact 32 (f := .glo "_law_class_due") rfl)), F33.kp, b33⟩
  have c_law_accesses : Cl P w K mg base L2.CX0 1 "_law_accesses" ["flags"] spAcc := ⟨_, fd29, ok_accesses F29 B, (He.glo_ok X G (c.fact 28 (f := .glo "_law_accesses") rfl)), F29.kp, b29⟩
  have c_law_fits : Cl P w K mg base L2.CX0 1 "_law_fits" ["descriptor", "constant"] spFits := ⟨_, fd31, ok_lawFits F31 B, (He.glo_ok X G (c.fact 30 (f := .glo "_law_fits") rfl)), F31.kp, b31⟩
  have c_law_field_due : Cl P w K mg base L2.CX0 2 "_law_field_due" ["is_wide", "field", "ahead"] spFieldDue := ⟨_, fd32, ok_fieldDue F32 B c_law_accesses c_law_fits, (He.glo_ok X G (c.fact 31 (f := .glo "_law_field_due") rfl)), F32.kp, b32⟩
  have c_law_flags_bad : Cl P w K mg base L2.CX0 2 "_law_flags_bad" ["is_wide", "name", "flags"] spBadF := ⟨_, fd30, ok_flagsBad F30 B c_law_accesses, (He.glo_ok X G (c.fact 29 (f := .glo "_law_flags_bad") rfl)), F30.kp, b30⟩
  have c_law_method_due : Cl P w K mg base L2.CX0 3 "_law_method_due" ["is_wide", "method", "ahead"] (spMethDue K) := ⟨_, fd68, ok_methodDue F68 B cu2 c_law_flags_bad, (He.glo_ok X G (c.fact 65 (f := .glo "_law_method_due") rfl)), F68.kp, b68⟩
  have c_law_due : Cl P w K mg base L2.CX0 4 "_law_due" ["plan"] (spLDue K) := ⟨_, fd69, ok_lawDue F69 B c_law_class_due c_law_field_due c_law_method_due, (He.glo_ok X G (c.fact 66 (f := .glo "_law_due") rfl)), F69.kp, b69⟩
  have c_law_right : Cl P w K mg base L2.CX0 13 "_law_right" ["well"] spRight := ⟨_, fd71, ok_lawRight F71 B eqm ckf c_fault c_law_plan c_law_made c_law_due, (He.glo_ok X G (c.fact 67 (f := .glo "_law_right") rfl)), F71.kp, b71⟩
  have cx_fault : Cl P w K mg base (L2.CX P w) 11 "fault" ["file"] (spFaultX K (He.ga K "NoFile")) := ⟨_, fd52, ok_faultX F52 B cfi nof c_fault_of_class c_fault_of_fields c_fault_of_methods, (He.glo_ok X G (c.fact 51 (f := .glo "fault") rfl)), F52.kp, b52⟩
  have c_law_said : Cl P w K mg base L2.CX0 12 "_law_said" ["thing"] (spSaid K) := ⟨_, fd53, ok_lawSaid F53 B nof gTE cx_fault, (He.glo_ok X G (c.fact 52 (f := .glo "_law_said") rfl)), F53.kp, b53⟩
  exact ok_law F72 B kf cu2 mCo mUn c_law_well c_law_right c_law_said
end N8
open PySem PySem.W PySem.Calls PyProof.Rows
theorem PySem.Challenge.cw_typegate_k48_whole_forms_of_classes_holds : PySem.Challenge.rw_typegate_k48_whole_forms_of_classes.Holds := by
  w_on; o_law
  o_head N8H.hkT
  case hw => w_witness2
  case hc =>
    refine L2.walk_ofE (l := PySem.Challenge.rw_typegate_k48_whole_forms_of_classes) (n := 63) (k := 14) (x := "script") (CX := L2.CX0) rfl (by decide) (by kernel_rfl) ⟨rfl, by decide, by decide⟩ ?F (fun _ _ _ _ z => z)
    intro w mg fa h Y G hmg0
    obtain ⟨K, KX, cT, cL⟩ := Y
    have hmg : mg ("law" : PySem.Str) = some (.ref fa) := hmg0
    obtain ⟨fd, hb, hF⟩ := N8.facts (P := (PySem.Challenge.rw_typegate_k48_whole_forms_of_classes).prog) (w := w) KX G hmg cT cL
    exact ⟨K, fd, N8.spLaw K, KX, hb, fun H a ns hl _ hS => ⟨a, ns, rfl, hS, hl, fun _ => rfl⟩, hF⟩
