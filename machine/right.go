package machine

import "veil/api"

// isCode tells whether a list is code.
func isCode(code []api.Op) bool {
	if len(code) > api.MaxCode {
		return false
	}
	for i := 0; i < len(code); i++ {
		if !isOperation(code[i], len(code)) {
			return false
		}
	}
	return true
}

// isOperation tells whether an operation may stand in code of so many. The
// numbers that its kind does not name are not looked at.
func isOperation(op api.Op, length int) bool {
	if !isRegister(op.A) {
		return false
	}
	switch op.Kind {
	case api.Set:
		return isWord(op.B)
	case api.Add, api.And, api.Or, api.Xor, api.Eq:
		return isRegister(op.B) && isRegister(op.C)
	case api.Load, api.Store:
		return isRegister(op.B)
	case api.Jump:
		return op.B >= 0 && op.B <= length
	}
	return false
}

// isMemory tells whether memory can begin with the list.
func isMemory(memory []int) bool {
	if len(memory) > api.Words {
		return false
	}
	for i := 0; i < len(memory); i++ {
		if !isWord(memory[i]) {
			return false
		}
	}
	return true
}

func isRegister(n int) bool { return n >= 0 && n < api.Registers }

func isWord(n int) bool { return n >= 0 && n <= api.MaxWord }
