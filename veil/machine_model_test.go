package veil_test

import (
	"math/rand"
	"slices"
	"strings"

	"veil/api"
)

// A model of the machine. It is slow, and it follows the document's words.

// kinds has, for each kind, the numbers that name a register.
var kinds = map[int]string{
	api.Set: "A", api.Add: "ABC", api.And: "ABC", api.Or: "ABC", api.Xor: "ABC",
	api.Eq: "ABC", api.Load: "AB", api.Store: "AB", api.Jump: "A",
}

func isWord(n int) bool { return n >= 0 && n < 65536 }

func isOp(op api.Op, length int) bool {
	named, known := kinds[op.Kind]
	for i, n := range []int{op.A, op.B, op.C} {
		if strings.Contains(named, "ABC"[i:i+1]) && (n < 0 || n > 15) {
			return false
		}
	}
	if op.Kind == api.Set && !isWord(op.B) || op.Kind == api.Jump && (op.B < 0 || op.B > length) {
		return false
	}
	return known
}

// byBits makes a word of each pair of bits, by what the table has for it.
func byBits(x, y int, table [2][2]int) int {
	sum := 0
	for bit := 32768; bit > 0; bit /= 2 {
		sum = 2*sum + table[x/bit%2][y/bit%2]
	}
	return sum
}

func joined(kind, x, y int) int {
	switch kind {
	case api.Add:
		return (x + y) % 65536
	case api.And:
		return byBits(x, y, [2][2]int{{0, 0}, {0, 1}})
	case api.Or:
		return byBits(x, y, [2][2]int{{0, 1}, {1, 1}})
	case api.Xor:
		return byBits(x, y, [2][2]int{{0, 1}, {1, 0}})
	}
	return map[bool]int{true: 65535}[x == y]
}

// ran is what Run has to answer.
func ran(code []api.Op, memory []int, steps int) ([]int, []int, api.Errno) {
	switch {
	case len(code) > 4096 || slices.ContainsFunc(code, func(op api.Op) bool { return !isOp(op, len(code)) }):
		return nil, nil, api.ErrCode
	case len(memory) > 4096 || slices.ContainsFunc(memory, func(n int) bool { return !isWord(n) }):
		return nil, nil, api.ErrMemory
	case steps < 0 || steps > 2097152:
		return nil, nil, api.ErrArg
	}
	words, trace, registers := make([]int, 4096), []int{}, map[int]int{}
	copy(words, memory)
	for next := 0; next < len(code); steps-- {
		op, address := code[next], registers[code[next].B]
		next++
		switch {
		case steps == 0:
			return nil, nil, api.ErrSteps
		case kinds[op.Kind] == "AB" && address > 4095:
			return nil, nil, api.ErrAddress
		case op.Kind == api.Set:
			registers[op.A] = op.B
		case op.Kind == api.Load:
			registers[op.A] = words[address]
			trace = append(trace, address)
		case op.Kind == api.Store:
			words[address] = registers[op.A]
			trace = append(trace, 10000+address)
		case op.Kind == api.Jump && registers[op.A] != 0:
			next = op.B
			trace = append(trace, 20001)
		case op.Kind == api.Jump:
			trace = append(trace, 20000)
		default:
			registers[op.A] = joined(op.Kind, registers[op.B], registers[op.C])
		}
	}
	return words, trace, api.OK
}

// anyNumber: a small number or one at a bound.
func anyNumber(r *rand.Rand) int {
	if r.Intn(3) > 0 {
		return r.Intn(6)
	}
	bounds := []int{-1 << 63, -1, 0, 1, 15, 16, 4095, 4096, 32768, 65534, 65535, 65536, 1<<63 - 1}
	return bounds[r.Intn(len(bounds))]
}

// anyOperation makes some operation that may stand in code of the length. The
// numbers that it does not name are any.
func anyOperation(r *rand.Rand, length int) api.Op {
	op := api.Op{Kind: r.Intn(9), A: anyNumber(r), B: anyNumber(r), C: anyNumber(r)}
	for !isOp(op, length) {
		op.A, op.B, op.C = r.Intn(6), anyNumber(r), anyNumber(r)
	}
	return op
}

func anyCode(r *rand.Rand, length int) []api.Op {
	code := []api.Op{}
	for range length {
		code = append(code, anyOperation(r, length))
	}
	return code
}
