package veil_test

import (
	"math/rand"
	"slices"
	"testing"

	"veil/api"
	"veil/veil"
)

// scribble writes into a list and into its spare room.
func scribble(list []int) {
	list = list[:cap(list)]
	for i := range list {
		list[i] = -7 - i
	}
}

func scribbleCode(code []api.Op) {
	code = code[:cap(code)]
	for i := range code {
		code[i] = op(-7, i, i, i)
	}
}

// P2: Run writes neither into the code and memory that are handed in, nor into
// what stands behind them.
func TestRunLeavesWhatIsHandedIn(t *testing.T) {
	fill := []api.Op{op(api.Set, 1, 1), op(api.Set, 2, 4), op(api.Set, 3, 9), op(api.Store, 3, 0), op(api.Store, 3, 2), op(api.Add, 0, 0, 1), op(api.Jump, 1, 3)}
	room := []api.Op{op(api.Set, 5, 5), op(9, 9, 9, 9), op(-1, -1, -1, -1)}
	r := rand.New(rand.NewSource(18))
	codes := [][]api.Op{fill, fill[:6], nil, {op(api.Set, 0, 65536)}}
	for range 100 {
		codes = append(codes, anyCode(r, r.Intn(12)))
	}
	for _, code := range codes {
		for _, length := range []int{0, 1, 4, 4095, 4096, 4097} {
			for _, steps := range []int{-1, 0, 3, 9, 500} {
				all := append(slices.Clone(code), room...)
				memory := slices.Repeat([]int{3}, length+5000)
				allBefore, memoryBefore := slices.Clone(all), slices.Clone(memory)
				words, trace, _ := veil.Run(all[:len(code)], memory[:length], steps)
				scribble(words)
				scribble(trace)
				if !slices.Equal(all, allBefore) || !slices.Equal(memory, memoryBefore) {
					t.Errorf("P2: Run(%v, %d numbers, %d) wrote into what was handed in", code, length, steps)
				}
			}
		}
	}
}

// answer is what a call gives, as far as it is lists.
type answer struct {
	code  []api.Op
	lists [][]int
}

func (a answer) clone() answer {
	b := answer{code: slices.Clone(a.code)}
	for _, list := range a.lists {
		b.lists = append(b.lists, slices.Clone(list))
	}
	return b
}

func (a answer) equal(b answer) bool {
	return slices.Equal(a.code, b.code) && slices.EqualFunc(a.lists, b.lists, slices.Equal[[]int])
}

// askers: some calls that give lists.
func askers(r *rand.Rand) []func() answer {
	asks := []func() answer{}
	for range 12 {
		image := anyImage(r)
		secret := anySecret(r, int(image[2]))
		asks = append(asks, func() answer {
			code, data, _ := veil.Code(image)
			return answer{code, [][]int{data}}
		}, func() answer {
			_, trace, _ := veil.Check(image, secret)
			return answer{nil, [][]int{trace}}
		})
		code, data, _ := veil.Code(image)
		asks = append(asks, func() answer {
			words, trace, _ := veil.Run(code, laid(secret, data), api.MaxSteps)
			return answer{nil, [][]int{words, trace}}
		})
	}
	full := make([]int, 4096)
	return append(asks, func() answer {
		words, trace, _ := veil.Run([]api.Op{op(api.Load, 1, 0)}, full, 1)
		return answer{nil, [][]int{words, trace}}
	})
}

// P2: what is written into a list that came out changes nothing else, neither
// the other list of the answer nor an earlier or a later answer.
func TestListsAreFresh(t *testing.T) {
	asks := askers(rand.New(rand.NewSource(19)))
	for i, ask := range asks {
		for _, other := range []func() answer{ask, asks[(i+1)%len(asks)], asks[(i+5)%len(asks)]} {
			first := ask()
			kept := first.clone()
			between := other()
			keptBetween := between.clone()
			if !first.equal(kept) {
				t.Errorf("P2: call %d: a later call changed its lists", i)
			}
			scribbleCode(between.code)
			for k, list := range between.lists {
				for m := k + 1; m < len(between.lists); m++ {
					if scribble(list); !slices.Equal(between.lists[m], keptBetween.lists[m]) {
						t.Errorf("P2: behind call %d: two lists of an answer share memory", i)
					}
				}
				scribble(list)
			}
			if !first.equal(kept) {
				t.Errorf("P2: call %d: its lists share memory with a later answer", i)
			}
			scribbleCode(first.code)
			for k := len(first.lists) - 1; k >= 0; k-- {
				scribble(first.lists[k])
				if k > 0 && !slices.Equal(first.lists[k-1], kept.lists[k-1]) {
					t.Errorf("P2: call %d: two lists of an answer share memory", i)
				}
			}
			if again := ask(); !again.equal(kept) {
				t.Errorf("P2: call %d: what was written into its lists changed a later answer", i)
			}
			if again := other(); !again.equal(keptBetween) {
				t.Errorf("P2: behind call %d: what was written into lists changed a later answer", i)
			}
		}
	}
}

// P1: no text and no list lets Run, Code or Check answer lists beside an error.
func TestEveryListEnds(t *testing.T) {
	r := rand.New(rand.NewSource(20))
	for range 20000 {
		text := anyOf(r, "", "VP", "VP\x10\x01\x01a") + anyText(r, r.Intn(400))
		want := veil.Open(text)
		code, data, e := veil.Code(text)
		v, trace, f := veil.Check(text, anyText(r, r.Intn(20)))
		if want == api.OK {
			continue
		}
		if e != want || f != want || v || code != nil || data != nil || trace != nil {
			t.Errorf("P1: Code and Check of %q: %d, %d beside Open's %d", text, e, f, want)
		}
	}
	for range 20000 {
		code := []api.Op{}
		for range r.Intn(5) {
			code = append(code, op(anyNumber(r), anyNumber(r), anyNumber(r), anyNumber(r)))
		}
		memory := []int{anyNumber(r), anyNumber(r)}
		words, trace, e := veil.Run(code, memory, anyNumber(r))
		if (e == api.OK) != (len(words) == 4096) || e != api.OK && (words != nil || trace != nil) {
			t.Errorf("P1: Run(%v, %v): %d words, %d of a trace, %d", code, memory, len(words), len(trace), e)
		}
	}
}
