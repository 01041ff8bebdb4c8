package veil_test

import (
	"math/rand"
	"regexp"
	"strconv"
	"strings"

	"veil/api"
)

// A model of what an image grants, and of code that keeps a secret.

var inmost = regexp.MustCompile(`![TF]|[0-9]\([TF]+\)`)

// isTrue tells whether a formula is true: its letters become T or F, and then
// the inmost formulas do, until one is left.
func isTrue(formula string, truths []bool) bool {
	for i, truth := range truths {
		formula = strings.ReplaceAll(formula, "abcd"[i:i+1], map[bool]string{true: "T", false: "F"}[truth])
	}
	for len(formula) > 1 {
		formula = inmost.ReplaceAllStringFunc(formula, func(part string) string {
			k, _ := strconv.Atoi(part[:1])
			if part == "!F" || part[0] != '!' && strings.Count(part, "T") >= k {
				return "T"
			}
			return "F"
		})
	}
	return formula == "T"
}

// tablesOf cuts the tables out of an image.
func tablesOf(image string) []string {
	tables, rest := []string{}, image[5+int(image[4]):]
	for rest != "" {
		size := 258 + int(rest[0]) + int(rest[0])*int(rest[1])
		tables, rest = append(tables, rest[:size]), rest[size:]
	}
	return tables
}

// grants tells whether an image grants a secret.
func grants(image, secret string) bool {
	truths := []bool{}
	for _, table := range tablesOf(image) {
		truths = append(truths, read(table, secret))
	}
	return isTrue(image[5:5+int(image[4])], truths)
}

// laid: a secret in memory, with the code's data behind it.
func laid(secret string, data []int) []int {
	words := make([]int, 32)
	words[0] = len(secret)
	for i := range len(secret) {
		words[1+i] = int(secret[i])
	}
	return append(words, data...)
}

// shows runs code over memory whose words 0 to 16 are secret, and follows what
// hangs on them. It tells the first operation that asks for an address or for
// a jump that does, or -1. If there is none, the trace is the same for all
// secrets, since each step is.
func shows(code []api.Op, memory []int) int {
	words, registers := after(memory, nil), [16]int{}
	hiddenWords, hidden := [4096]bool{}, [16]bool{}
	for i := range 17 {
		hiddenWords[i] = true
	}
	for next := 0; next < len(code); {
		now, op := next, code[next]
		next++
		switch op.Kind {
		case api.Set:
			registers[op.A], hidden[op.A] = op.B, false
		case api.Load, api.Store:
			at := registers[op.B]
			if hidden[op.B] {
				return now
			}
			if op.Kind == api.Load {
				registers[op.A], hidden[op.A] = words[at], hiddenWords[at]
			} else {
				words[at], hiddenWords[at] = registers[op.A], hidden[op.A]
			}
		case api.Jump:
			if hidden[op.A] {
				return now
			}
			if registers[op.A] != 0 {
				next = op.B
			}
		default:
			registers[op.A], hidden[op.A] = joined(op.Kind, registers[op.B], registers[op.C]), hidden[op.B] || hidden[op.C]
		}
	}
	return -1
}

// anyTableOf makes some table of as many states and classes.
func anyTableOf(r *rand.Rand, states, classes int) string {
	text := []byte{byte(states), byte(classes)}
	for _, part := range [][2]int{{256, classes}, {states, 2}, {states * classes, states}} {
		for range part[0] {
			text = append(text, byte(r.Intn(part[1])))
		}
	}
	return string(text)
}

// imageOf makes the image of a formula and tables.
func imageOf(n int, formula string, tables ...string) string {
	return "VP" + string([]byte{byte(n), byte(len(tables)), byte(len(formula))}) + formula + strings.Join(tables, "")
}

// anyFormulaWithin makes some formula of at most MaxFormula bytes.
func anyFormulaWithin(r *rand.Rand, rules, size int) string {
	formula := anyFormula(r, rules, size)
	for len(formula) > api.MaxFormula {
		formula = anyFormula(r, rules, size)
	}
	return formula
}

// anyImage makes some image, whether or not a policy has it.
func anyImage(r *rand.Rand) string {
	tables := []string{}
	for range 1 + r.Intn(4) {
		tables = append(tables, anyTableOf(r, 1+r.Intn(1+r.Intn(24)), 1+r.Intn(1+r.Intn(24))))
	}
	return imageOf(r.Intn(17), anyFormulaWithin(r, len(tables), 1+r.Intn(20)), tables...)
}

// anySecret makes some secret of at most n bytes.
func anySecret(r *rand.Rand, n int) string {
	b := make([]byte, r.Intn(n+1))
	for i := range b {
		b[i] = byte(r.Intn(1 + r.Intn(256)))
	}
	return string(b)
}
