package veil_test

import (
	"math/rand"
	"strings"
	"testing"

	"veil/api"
	"veil/veil"
)

func checkOpen(t *testing.T, image string, want api.Errno) {
	t.Helper()
	if e := veil.Open(image); e != want {
		t.Errorf("P6: Open(%.60q ..) of %d bytes = %d, want %d", image, len(image), e, want)
	}
}

// sized: a table of as many states and classes, of which no byte is nought
// that may be another.
func sized(states, classes int) string {
	last := func(count, bound int) string {
		return strings.Repeat(string([]byte{byte(bound - 1)}), count)
	}
	return string([]byte{byte(states), byte(classes)}) + last(256, classes) + last(states, 2) + last(states*classes, states)
}

func rightImages() []string {
	star, all, none := starTable(), anyTable(), strings.Repeat("\x00", 256)
	return []string{
		"VP\x03\x01\x02!a" + star,
		"VP\x00\x01\x01a" + all,
		"VP\x10\x01\x01a" + all,
		"VP\x10\x02\x01a" + star + all,
		"VP\x10\x03\x01c" + all + star + all,
		"VP\x10\x04\x072(abcd)" + star + all + all + star,
		"VP\x10\x01\x28" + strings.Repeat("!", 39) + "a" + all,
		"VP\x09\x01\x01a" + sized(24, 24),
		"VP\x09\x01\x01a" + sized(1, 24),
		"VP\x09\x01\x01a" + sized(24, 1),
		"VP\x09\x04\x040(d)" + sized(24, 24) + sized(24, 24) + sized(24, 24) + sized(24, 24),
		// Tables that no pattern has: alike states, a class without bytes, a
		// state to which nothing leads, classes in another order.
		"VP\x09\x01\x01a\x02\x01" + none + "\x01\x01\x01\x00",
		"VP\x09\x01\x01a\x01\x02" + none + "\x01\x00\x00",
		"VP\x09\x01\x01a\x03\x01" + none + "\x01\x00\x00\x00\x01\x02",
		"VP\x09\x01\x01a\x02\x02\x01" + none[1:] + "\x01\x00\x00\x01\x01\x01",
	}
}

func TestOpenImages(t *testing.T) {
	for _, image := range rightImages() {
		checkOpen(t, image, api.OK)
		for i := range len(image) {
			checkOpen(t, image[:i], api.ErrImage)
		}
		checkOpen(t, image[1:], api.ErrImage)
		for _, tail := range []string{"\x00", "a", "\n", anyTable(), image} {
			checkOpen(t, image+tail, api.ErrImage)
		}
	}
}

func TestOpenHeads(t *testing.T) {
	table := anyTable()
	for _, text := range []string{
		"", "V", "VP", "VP\x00\x01", "VP\x00\x01\x01", "VP\x00\x01\x01a",
		"VQ\x10\x01\x01a" + table, "vp\x10\x01\x01a" + table, "PV\x10\x01\x01a" + table, "VVP\x10\x01\x01a" + table,
		"VP\x11\x01\x01a" + table, "VP\xff\x01\x01a" + table,
		"VP\x10\x00\x01a", "VP\x10\x00\x01a" + table, "VP\x10\x00\x00",
		"VP\x10\x05\x01a" + strings.Repeat(table, 5), "VP\x10\xff\x01a" + strings.Repeat(table, 255),
		"VP\x10\x02\x01a" + table, "VP\x10\x01\x01a" + table + table,
		"VP\x10\x01\x00" + table, "VP\x10\x01\x00a" + table, "VP\x10\x01\x02a" + table, "VP\x10\x01\xffa" + table,
		"VP\x10\x01\x29" + strings.Repeat("!", 40) + "a" + table,
		"VP\x10\x01\xff" + strings.Repeat("!", 254) + "a" + table,
		"VP\x10\x01\x01b" + table, "VP\x10\x02\x01c" + table + table, "VP\x10\x03\x01d" + table + table + table, "VP\x10\x04\x01e" + strings.Repeat(table, 4),
		"VP\x10\x01\x01!" + table, "VP\x10\x01\x02aa" + table, "VP\x10\x01\x031()" + table, "VP\x10\x01\x032(a" + table, "VP\x10\x01\x04(a)\x00" + table,
		strings.Repeat("V", 9000000), "VP\x10\x04\x01a" + strings.Repeat(table, 40000),
	} {
		checkOpen(t, text, api.ErrImage)
	}
}

func TestOpenTables(t *testing.T) {
	head, none := "VP\x10\x01\x01a", strings.Repeat("\x00", 256)
	for _, table := range []string{
		"\x00\x01" + none, "\x01\x00" + none + "\x01", "\x00\x00" + none,
		"\x19\x01" + none + strings.Repeat("\x00", 50), "\x01\x19" + none + strings.Repeat("\x00", 26),
		sized(25, 24), sized(24, 25), sized(255, 1), sized(1, 255),
		"\x01\x01\x01" + none[1:] + "\x00\x00", "\x01\x01" + none[1:] + "\x01\x00\x00",
		"\x01\x18" + none[1:] + "\x18" + strings.Repeat("\x00", 25),
		"\x01\x01" + none + "\x02\x00", "\x02\x01" + none + "\x01\xff\x00\x00",
		"\x01\x01" + none + "\x00\x01", "\x02\x01" + none + "\x00\x00\x00\x02", "\x02\x01" + none + "\x00\x00\x02\x00",
	} {
		checkOpen(t, head+table, api.ErrImage)
		checkOpen(t, "VP\x10\x02\x01a"+anyTable()+table, api.ErrImage)
		checkOpen(t, "VP\x10\x02\x01a"+table+anyTable(), api.ErrImage)
	}
}

// Every byte of some images is changed into every other.
func TestOpenEveryByte(t *testing.T) {
	for _, image := range []string{
		"VP\x10\x02\x052(ab)" + starTable() + anyTable(),
		"VP\x03\x01\x02!a" + tableText(3, []string{"ab"}, 0, 0, 1, 1, 2, 1, 1, 1, 1),
	} {
		for i := range len(image) {
			for b := range 256 {
				changed := image[:i] + string([]byte{byte(b)}) + image[i+1:]
				want := api.ErrImage
				if isImage(changed) {
					want = api.OK
				}
				checkOpen(t, changed, want)
			}
		}
	}
}

func TestOpenByModel(t *testing.T) {
	r := rand.New(rand.NewSource(9))
	images := rightImages()
	for range 3000 {
		image := []byte(anyOf(r, images...))
		for range r.Intn(3) {
			i := r.Intn(len(image))
			if r.Intn(2) == 0 {
				i = r.Intn(10)
			}
			image[i] = byte(r.Intn(1 + r.Intn(256)))
		}
		if r.Intn(3) == 0 {
			image = image[:len(image)-r.Intn(3)]
		}
		want := api.ErrImage
		if isImage(string(image)) {
			want = api.OK
		}
		checkOpen(t, string(image), want)
	}
}
