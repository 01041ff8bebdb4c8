// Package veil: policies for secrets, and machines that judge a secret without showing it: see DOC.md.
package veil

import (
	"veil/api"
	"veil/judge"
	"veil/machine"
	"veil/pattern"
	"veil/policies"
	"veil/table"
	"veil/tuples"
)

// Pattern tells whether a text is a pattern, and its weight (P3).
func Pattern(p string) (api.Errno, int) {
	_, e, n := pattern.Read(p)
	return e, n
}

// Match tells whether a string matches a pattern (P4).
func Match(p string, s string) (bool, api.Errno) {
	if len(p) > api.MaxPattern || len(s) > api.MaxSecret {
		return false, api.ErrLong
	}
	tree, e, _ := pattern.Read(p)
	if e != api.OK {
		return false, e
	}
	a := pattern.Build(tree)
	return a.Match(s), api.OK
}

// Table makes the table of a pattern (P5).
func Table(p string) (string, api.Errno) {
	t, e := table.OfPattern(p)
	if e != api.OK {
		return "", e
	}
	return t.Bytes(), api.OK
}

// Open tells whether a text is an image (P6).
func Open(image string) api.Errno {
	_, e := policies.Open(image)
	return e
}

// Compile makes the image of a policy (P7).
func Compile(policy string, n int) (string, api.Errno, int) {
	m, e, at := policies.Compile(policy, n)
	if e != api.OK {
		return "", e, at
	}
	return m.Bytes(), api.OK, 0
}

// Run runs code over memory (P8).
func Run(code []api.Op, memory []int, steps int) ([]int, []int, api.Errno) {
	return machine.Run(code, memory, steps)
}

// Code makes code and data that judge a secret by an image (P9).
func Code(image string) ([]api.Op, []int, api.Errno) {
	m, e := policies.Open(image)
	if e != api.OK {
		return nil, nil, e
	}
	code, data := judge.Code(&m)
	return code, data, api.OK
}

// Check judges a secret by an image (P10).
func Check(image string, secret string) (bool, []int, api.Errno) {
	m, e := policies.Open(image)
	if e != api.OK {
		return false, nil, e
	}
	return judge.Check(&m, secret)
}

// Witness tells the first secret that an image grants (P11).
func Witness(image string) (string, bool, api.Errno) {
	m, e := policies.Open(image)
	if e != api.OK {
		return "", false, e
	}
	return tuples.Witness(&m)
}

// Differ tells the first string on which two images part (P12).
func Differ(x string, y string) (string, bool, api.Errno) {
	m, e := policies.Open(x)
	if e != api.OK {
		return "", false, e
	}
	n, e := policies.Open(y)
	if e != api.OK {
		return "", false, e
	}
	return tuples.Differ(&m, &n)
}
