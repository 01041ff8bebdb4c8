package veil_test

import (
	"math"
	"math/rand"
	"slices"
	"testing"

	"veil/api"
	"veil/veil"
)

func op(kind int, numbers ...int) api.Op {
	numbers = append(numbers, 0, 0, 0)
	return api.Op{Kind: kind, A: numbers[0], B: numbers[1], C: numbers[2]}
}

// after: the memory, with some words changed.
func after(memory []int, changes map[int]int) []int {
	words := make([]int, 4096)
	copy(words, memory)
	for at, word := range changes {
		words[at] = word
	}
	return words
}

func checkRun(t *testing.T, code []api.Op, memory []int, steps int, words []int, trace []int, e api.Errno) {
	t.Helper()
	w, tr, f := veil.Run(code, memory, steps)
	if !slices.Equal(w, words) || !slices.Equal(tr, trace) || f != e {
		t.Errorf("P8: Run(%.300v, %d numbers, %d): trace %.300v, %d, want %.300v, %d; memory right: %v",
			code, len(memory), steps, tr, f, trace, e, slices.Equal(w, words))
	}
	if f != api.OK && (w != nil || tr != nil) {
		t.Errorf("P1: Run(%.300v, %d numbers, %d) gives lists beside the error %d", code, len(memory), steps, f)
	}
}

func TestRunExamples(t *testing.T) {
	put := []api.Op{op(api.Set, 0, 7), op(api.Set, 1, 5), op(api.Store, 0, 1), op(api.Load, 2, 1), op(api.Jump, 2, 5)}
	none := after(nil, nil)
	checkRun(t, put, nil, 5, after(nil, map[int]int{5: 7}), []int{10005, 5, 20001}, api.OK)
	checkRun(t, put, nil, 4, nil, nil, api.ErrSteps)
	checkRun(t, []api.Op{op(api.Jump, 0, 0)}, nil, 1, none, []int{20000}, api.OK)
	far := []api.Op{op(api.Set, 3, 4096), op(api.Load, 0, 3)}
	checkRun(t, far, nil, 2, nil, nil, api.ErrAddress)
	checkRun(t, far, nil, 1, nil, nil, api.ErrSteps)
	checkRun(t, nil, nil, 0, none, nil, api.OK)
	checkRun(t, []api.Op{}, []int{}, 0, none, nil, api.OK)
}

// Each operation on two words, at the bounds and at any bits; the register
// that it changes may be one of those that it reads.
func TestRunTwoWords(t *testing.T) {
	words := []int{0, 1, 2, 3, 255, 256, 21845, 32767, 32768, 43690, 65534, 65535}
	for kind := api.Add; kind <= api.Eq; kind++ {
		for _, x := range words {
			for _, y := range words {
				want := joined(kind, x, y)
				for _, a := range []int{0, 1, 2, 15} {
					code := []api.Op{op(api.Set, 0, x), op(api.Set, 1, y), op(kind, a, 0, 1), op(api.Set, 9, 100), op(api.Store, a, 9)}
					checkRun(t, code, nil, 5, after(nil, map[int]int{100: want}), []int{10100}, api.OK)
				}
			}
			code := []api.Op{op(api.Set, 5, x), op(kind, 5, 5, 5), op(api.Set, 9, 100), op(api.Store, 5, 9)}
			checkRun(t, code, nil, 4, after(nil, map[int]int{100: joined(kind, x, x)}), []int{10100}, api.OK)
		}
	}
	sums := map[[2]int]int{{65535, 0}: 65535, {65535, 1}: 0, {1, 65535}: 0, {65535, 65535}: 65534, {32768, 32768}: 0, {32767, 32768}: 65535}
	for pair, sum := range sums {
		code := []api.Op{op(api.Set, 0, pair[0]), op(api.Set, 1, pair[1]), op(api.Add, 2, 0, 1), op(api.Store, 2, 3)}
		checkRun(t, code, nil, 4, after(nil, map[int]int{0: sum}), []int{10000}, api.OK)
	}
}

func TestRunMemory(t *testing.T) {
	full := make([]int, 4096)
	for i := range full {
		full[i] = 65535 - i
	}
	for _, memory := range [][]int{nil, {}, {1, 2, 3}, full[:4095], full} {
		checkRun(t, nil, memory, 0, after(memory, nil), nil, api.OK)
		// Load into the register that has the address; store the address itself.
		code := []api.Op{op(api.Set, 4, 4095), op(api.Load, 4, 4), op(api.Set, 5, 7), op(api.Store, 4, 5), op(api.Store, 5, 5)}
		words := after(memory, nil)
		words[7] = words[4095]
		checkRun(t, code[:4], memory, 4, words, []int{4095, 10007}, api.OK)
		words[7] = 7
		checkRun(t, code, memory, 5, words, []int{4095, 10007, 10007}, api.OK)
	}
	for _, kind := range []int{api.Load, api.Store} {
		for _, address := range []int{4096, 4097, 10000, 32768, 65535} {
			code := []api.Op{op(api.Store, 1, 0), op(api.Set, 3, address), op(kind, 0, 3)}
			checkRun(t, code, full, 3, nil, nil, api.ErrAddress)
			checkRun(t, code, full, 2, nil, nil, api.ErrSteps)
			checkRun(t, append([]api.Op{op(api.Set, 6, 1), op(api.Jump, 6, 5)}, code...), full, 2, after(full, nil), []int{20001}, api.OK)
		}
	}
}

// At the start every register is 0, whatever ran before.
func TestRunRegistersStart(t *testing.T) {
	for a := range 16 {
		checkRun(t, []api.Op{op(api.Jump, a, 0), op(api.Set, a, 9), op(api.Jump, a, 3)}, nil, 9, after(nil, nil), []int{20000, 20001}, api.OK)
	}
}

func TestRunSteps(t *testing.T) {
	forever := []api.Op{op(api.Set, 0, 1), op(api.Jump, 0, 1)}
	for _, steps := range []int{0, 1, 2, 1000, api.MaxSteps} {
		checkRun(t, forever, nil, steps, nil, nil, api.ErrSteps)
	}
	// Two operations, and then three for each time around.
	round := []api.Op{op(api.Set, 0, 32768), op(api.Set, 1, 65535), op(api.Add, 0, 0, 1), op(api.Set, 2, 2), op(api.Jump, 0, 2)}
	trace := append(slices.Repeat([]int{20001}, 32767), 20000)
	need := 2 + 3*32768
	checkRun(t, round, nil, need, after(nil, nil), trace, api.OK)
	checkRun(t, round, nil, need+1, after(nil, nil), trace, api.OK)
	checkRun(t, round, nil, need-1, nil, nil, api.ErrSteps)
	checkRun(t, make([]api.Op, 4096), nil, 4096, after(nil, nil), nil, api.OK)
	checkRun(t, make([]api.Op, 4096), nil, 4095, nil, nil, api.ErrSteps)
}

// Code that needs just as many steps as may be, or one more.
func TestRunMostSteps(t *testing.T) {
	// 16 times around, and each time 65534 times around two operations.
	long := func(more int) []api.Op {
		code := []api.Op{op(api.Set, 1, 65535), op(api.Set, 2, 16),
			op(api.Set, 0, 65534), op(api.Add, 0, 0, 1), op(api.Jump, 0, 3), op(api.Add, 2, 2, 1), op(api.Jump, 2, 2)}
		return append(code, make([]api.Op, more)...)
	}
	did := 2 + 16*(1+2*65534+2)
	left := api.MaxSteps - did
	if left < 0 || left+1+7 > api.MaxCode {
		t.Fatalf("the code needs %d steps", did)
	}
	words, trace, e := veil.Run(long(left), nil, api.MaxSteps)
	if e != api.OK || len(words) != 4096 || len(trace) != 16*(65534+1) {
		t.Errorf("P8: Run with as many steps as may be: %d words, %d of a trace, %d", len(words), len(trace), e)
	}
	checkRun(t, long(left+1), nil, api.MaxSteps, nil, nil, api.ErrSteps)
}

var wrongNumbers = []int{math.MinInt, -65536, -1, 16, 17, 255, 256, 4096, 65536, 1 << 32, math.MaxInt}

// Each number of each kind, right and wrong.
func TestRunNames(t *testing.T) {
	for kind := 0; kind < 9; kind++ {
		for i := range 3 {
			for _, n := range append([]int{0, 1, 14, 15, 65535}, wrongNumbers...) {
				numbers := []int{0, 0, 0}
				numbers[i] = n
				o := op(kind, numbers...)
				words, trace, e := ran([]api.Op{o}, nil, 1)
				checkRun(t, []api.Op{o}, nil, 1, words, trace, e)
				_, _, e = ran([]api.Op{o, op(api.Load, 0, 0)}, nil, 0)
				checkRun(t, []api.Op{o, op(api.Load, 0, 0)}, nil, 0, nil, nil, e)
			}
		}
	}
	for _, n := range append([]int{9, 10}, wrongNumbers...) {
		checkRun(t, []api.Op{op(n)}, nil, 1, nil, nil, api.ErrCode)
		checkRun(t, []api.Op{op(api.Set), op(n)}, nil, 1, nil, nil, api.ErrCode)
	}
}

func TestRunJumps(t *testing.T) {
	for length := 1; length < 5; length++ {
		for to := -2; to < 8; to++ {
			code := make([]api.Op, length)
			code[0] = op(api.Jump, 3, to)
			if to < 0 || to > length {
				checkRun(t, code, nil, 99, nil, nil, api.ErrCode)
			} else {
				checkRun(t, code, nil, 99, after(nil, nil), []int{20000}, api.OK)
			}
		}
	}
	// Every word that is not 0 lets a jump be taken.
	for _, word := range []int{1, 2, 255, 256, 32768, 65535} {
		code := []api.Op{op(api.Set, 7, word), op(api.Jump, 7, 3), op(api.Load, 0, 0)}
		checkRun(t, code, nil, 2, after(nil, nil), []int{20001}, api.OK)
	}
}

// Where several errors apply, the first is answered.
func TestRunErrors(t *testing.T) {
	wrong := []api.Op{op(api.Set, 0, 65536)}
	far := []api.Op{op(api.Set, 0, 5000), op(api.Load, 0, 0)}
	codes := [][]api.Op{wrong, make([]api.Op, 4097), make([]api.Op, 4000000), append(slices.Clone(far), wrong...)}
	memories := [][]int{nil, {-1}, {0, 65536}, {math.MinInt}, {math.MaxInt}, make([]int, 4097), make([]int, 9000000)}
	for _, steps := range []int{math.MinInt, -1, 0, 1, api.MaxSteps, api.MaxSteps + 1, math.MaxInt} {
		for _, memory := range memories {
			for _, code := range codes {
				checkRun(t, code, memory, steps, nil, nil, api.ErrCode)
			}
			if memory != nil {
				checkRun(t, far, memory, steps, nil, nil, api.ErrMemory)
				checkRun(t, nil, memory, steps, nil, nil, api.ErrMemory)
			}
		}
		want := api.ErrArg
		switch steps {
		case 0, 1:
			want = api.ErrSteps
		case api.MaxSteps:
			want = api.ErrAddress
		}
		checkRun(t, far, nil, steps, nil, nil, want)
	}
	last := make([]int, 4096)
	last[4095] = 65536
	checkRun(t, nil, last, 0, nil, nil, api.ErrMemory)
	last[4095] = 65535
	checkRun(t, nil, last, 0, last, nil, api.OK)
	checkRun(t, nil, nil, -1, nil, nil, api.ErrArg)
	checkRun(t, nil, nil, api.MaxSteps+1, nil, nil, api.ErrArg)
}

func TestRunByModel(t *testing.T) {
	r := rand.New(rand.NewSource(12))
	for range 30000 {
		code, memory, steps := anyCode(r, r.Intn(20)), make([]int, r.Intn(8)), r.Intn(80)
		for i := range memory {
			memory[i] = r.Intn(6)
		}
		if r.Intn(10) == 0 {
			code = append(code, op(anyNumber(r), anyNumber(r), anyNumber(r), anyNumber(r)))
		}
		if r.Intn(10) == 0 {
			memory = append(memory, anyNumber(r))
		}
		if r.Intn(10) == 0 {
			steps = anyNumber(r)
		}
		words, trace, e := ran(code, memory, steps)
		checkRun(t, code, memory, steps, words, trace, e)
	}
}
