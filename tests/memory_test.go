package tests

import (
	"slices"
	"strings"
	"testing"
	"unsafe"
)

// overlap reports whether two strings share memory. It is of no use for strings of one byte, which Go keeps in one place, never written to.
func overlap(a string, b string) bool {
	if len(a) < 2 || len(b) < 2 {
		return false
	}
	fromA := uintptr(unsafe.Pointer(unsafe.StringData(a)))
	fromB := uintptr(unsafe.Pointer(unsafe.StringData(b)))
	return fromA < fromB+uintptr(len(b)) && fromB < fromA+uintptr(len(a))
}

func checkNoOverlap(t *testing.T, what string, answers []string, arguments []string) {
	t.Helper()
	for i, a := range answers {
		for _, b := range append(slices.Clone(arguments), answers[:i]...) {
			if overlap(a, b) {
				t.Fatalf("%s: %q shares memory with %q", what, a, b)
			}
		}
	}
}

func TestOverlapIsSeen(t *testing.T) {
	s := strings.Clone("the sea")
	if !overlap(s, s) || !overlap(s, s[4:]) || !overlap(s[:3], s[1:]) || overlap(s[:3], s[4:]) || overlap(s, strings.Clone(s)) {
		t.Fatal("memory that is shared is not seen")
	}
}

// scribbled returns a list after all that it can reach is overwritten.
func scribbled[T any](list []T, with T) []T {
	list = list[:cap(list)]
	for i := range list {
		list[i] = with
	}
	return list
}

// checkListIsOwn overwrites one answer and looks whether another one, or a later one, is changed by that.
func checkListIsOwn[T comparable](t *testing.T, answer func() []T, other T) {
	t.Helper()
	list := answer()
	kept := slices.Clone(list)
	scribbled(answer(), other)
	if later := answer(); !slices.Equal(list, kept) || !slices.Equal(later, kept) {
		t.Fatalf("%v became %v, %v", kept, list, later)
	}
}

// checkListIsKept uses a list that is part of a longer one, so that writing behind it is seen too, and overwrites the answer.
func checkListIsKept[T comparable, U any](t *testing.T, list []T, behind T, answer func([]T) []U, other U) {
	t.Helper()
	all := append(slices.Clone(list), behind, behind)
	kept := slices.Clone(all)
	scribbled(answer(all[:len(list)]), other)
	if !slices.Equal(all, kept) {
		t.Fatalf("%v became %v", kept, all)
	}
}
