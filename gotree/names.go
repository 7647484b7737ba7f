package gotree

// takenWords are those of so many bytes that are no names: few at once, for
// nothing is kept, and each name that is asked makes them anew.
func takenWords(size int) map[string]struct{} {
	switch size {
	case 2:
		return map[string]struct{}{"if": {}, "go": {}}
	case 3:
		return map[string]struct{}{"var": {}, "for": {}, "map": {}, "int": {}, "len": {}}
	case 4:
		return map[string]struct{}{"type": {}, "func": {}, "else": {}, "case": {}, "chan": {}, "goto": {}, "true": {}, "bool": {}}
	case 5:
		return map[string]struct{}{"break": {}, "const": {}, "defer": {}, "range": {}, "false": {}}
	case 6:
		return map[string]struct{}{"struct": {}, "return": {}, "import": {}, "select": {}, "switch": {}, "string": {}, "append": {}}
	case 7:
		return map[string]struct{}{"package": {}, "default": {}}
	case 8:
		return map[string]struct{}{"continue": {}}
	case 9:
		return map[string]struct{}{"interface": {}}
	case 11:
		return map[string]struct{}{"fallthrough": {}}
	}
	return nil
}
