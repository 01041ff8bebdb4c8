// Package judge makes code that judges a secret by an image, and lets the
// machine run it.
package judge

import (
	"veil/api"
	"veil/policies"
)

// What the registers hold.
const (
	one     = 0 // always 1
	length  = 1 // the secret's length
	verdict = 2 // the address of the verdict, as far as the rules are judged
	row     = 3 // the address of the row of the state
	ended   = 4 // every bit, if the secret has ended, else none
	wanted  = 5 // the address of the word that is looked for
	found   = 6 // that word
	at      = 7 // the address at which is looked now
	past    = 8 // the address at which the looking stops
	word    = 9
	scratch = 10
)

// Code makes code that judges a secret by an image, and its data, as P9 asks.
//
// The code reads as many bytes as a secret may have, whatever its length is,
// and wherever it needs a word whose address hangs on the secret, it loads all
// words among which that one lies. No address and no jump hangs on the secret:
// so the trace is the same for all.
//
// At the bounds of an image that makes some 2060 operations, 3440 words of
// data and 401600 steps, which is less than may be of each.
func Code(m *policies.Image) ([]api.Op, []int) {
	w := writer{}
	l := layer{}
	verdicts := l.verdicts(m)
	w.set(one, 1)
	w.load(length, api.LengthAt)
	w.set(verdict, verdicts.begin)
	mark := 1
	for i := 0; i < m.Rules(); i++ {
		t := m.Table(i)
		classes := l.classes(&t)
		rows := l.rows(&t, mark)
		w.readSecret(m.Most(), classes, rows)
		w.addMark(rows)
		mark *= 2
	}
	w.write(api.Or, wanted, verdict, verdict)
	w.look(verdicts)
	w.store(found, api.VerdictAt)
	return w.code, l.data
}

// writer writes code, one operation behind the other.
type writer struct {
	code []api.Op
}

func (w *writer) write(kind, a, b, c int) {
	w.code = append(w.code, api.Op{Kind: kind, A: a, B: b, C: c})
}

func (w *writer) set(register, number int) { w.write(api.Set, register, number, 0) }

func (w *writer) load(register, address int) {
	w.set(scratch, address)
	w.write(api.Load, register, scratch, 0)
}

func (w *writer) store(register, address int) {
	w.set(scratch, address)
	w.write(api.Store, register, scratch, 0)
}

// readSecret reads the secret by a table: the row becomes that of the state
// to which it leads.
func (w *writer) readSecret(most int, classes, rows area) {
	w.set(row, rows.begin)
	w.set(ended, 0)
	for i := 0; i < most; i++ {
		w.readByte(i, classes, rows)
	}
}

// readByte reads the secret's byte with the number i. If the secret has ended
// before it, all is done as if it had not, but for the row, which stays.
func (w *writer) readByte(i int, classes, rows area) {
	w.set(scratch, i)
	w.write(api.Eq, scratch, scratch, length)
	w.write(api.Or, ended, ended, scratch)
	w.load(wanted, api.SecretAt+i)
	w.set(scratch, classes.begin)
	w.write(api.Add, wanted, wanted, scratch)
	w.look(classes)
	w.write(api.Add, wanted, row, found)
	w.look(rows)
	w.write(api.Xor, scratch, row, found)
	w.write(api.And, scratch, scratch, ended)
	w.write(api.Xor, row, found, scratch)
}

// addMark adds what stands first in the state's row: the rule's mark, if the
// state is granted.
func (w *writer) addMark(rows area) {
	w.write(api.Or, wanted, row, row)
	w.look(rows)
	w.write(api.Add, verdict, verdict, found)
}

// look finds the word at the wanted address, and loads every word of the area,
// so that none is seen to be the wanted one. The area has a word at least:
// else the looking would go past its end.
func (w *writer) look(a area) {
	w.set(at, a.begin)
	w.set(past, a.end)
	w.set(found, 0)
	again := len(w.code)
	w.write(api.Load, word, at, 0)
	w.write(api.Eq, scratch, at, wanted)
	w.write(api.And, word, word, scratch)
	w.write(api.Or, found, found, word)
	w.write(api.Add, at, at, one)
	w.write(api.Xor, scratch, at, past)
	w.write(api.Jump, scratch, again, 0)
}
