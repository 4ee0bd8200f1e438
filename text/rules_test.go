package text_test

import (
	"testing"

	"strake/api"
	"strake/sample"
	"strake/text"
)

// TestHandedInStays: Print does not change what it is given, spare room of its lists included (R4).
func TestHandedInStays(t *testing.T) {
	for _, change := range []func(f *api.Func){
		func(f *api.Func) {},
		func(f *api.Func) { f.Blocks[6].Term.N = 1 },
		func(f *api.Func) { f.Blocks[6].Term.Val = 99 },
		func(f *api.Func) { f.Blocks[3].Term.Val = 0 },
	} {
		f := sample.Roomy(sample.Rich())
		change(&f)
		before := sample.Memory(f)
		_, e := text.Print(f)
		if sample.Memory(f) != before {
			t.Errorf("what was handed in is changed, beside error %d", e)
		}
	}
}

// TestAnswersAreNewMemory: no two lists that Parse answers share memory (R4), and nothing is kept (R5).
func TestAnswersAreNewMemory(t *testing.T) {
	var fs []api.Func
	for range 3 {
		f, _, _ := text.Parse(rich())
		fs = append(fs, f)
	}
	if !sample.Apart(fs...) {
		t.Error("lists of Parse share memory")
	}
	wantParse(t, "once more", rich(), sample.Rich())
	sample.Fill(12345, fs...)
	wantParse(t, "and once more", rich(), sample.Rich())
	wantPrint(t, "and back", sample.Rich(), rich(), api.OK)
}

// TestNothingIsKept: faults ahead do not matter (R5).
func TestNothingIsKept(t *testing.T) {
	for range 3 {
		wantFault(t, "a fault", "func\n", 1, api.ErrText)
		wantParse(t, "right", rich(), sample.Rich())
		wantPrint(t, "wrong", api.Func{}, "", api.ErrForm)
		wantPrint(t, "right", sample.Rich(), rich(), api.OK)
	}
}
