package text

import (
	"slices"
	"strconv"

	"strake/api"
)

// noValue stands where an instruction or an end has no value.
const noValue = -1

// Words that are both written and read.
const (
	wordFunc   = "func"
	wordArrays = "arrays"
	wordCells  = "cells"
	wordPhi    = "phi"
	wordMakes  = "="
	valueMark  = "v"
	blockMark  = "b"
)

// operationNames are the names of operations 1, 2, .. in their order.
func operationNames() []string {
	return []string{
		"const", "flag", "add", "sub", "mul", "and", "or", "xor", "shl", "shr", "div", "rem", "eq", "lt", "below",
		"not", "select", "len", "load", "store", "fetch", "put", "out", "get", "set",
	}
}

// endNames are the names of blocks' ends 1, 2, .. in their order.
func endNames() []string { return []string{"jump", "branch", "return", "trap"} }

// typeNames are the names of types 1, 2, .. in their order.
func typeNames() []string { return []string{"int", "bool"} }

// nameOf and numberOf take the names to be counted from 1 on, as api's numbers are.
func nameOf(names []string, n int) string { return names[n-1] }

// numberOf is 0, if the word is none of the names.
func numberOf(names []string, word string) int { return slices.Index(names, word) + 1 }

// hasN tells whether an operation's N stands in its line; where it does not, N is 0.
func hasN(op int) bool {
	switch op {
	case api.OpConst, api.OpFlag, api.OpLen, api.OpLoad, api.OpStore, api.OpFetch, api.OpPut, api.OpGet, api.OpSet:
		return true
	}
	return false
}

func valueWord(id int) string { return valueMark + strconv.Itoa(id) }

func blockWord(b int) string { return blockMark + strconv.Itoa(b) }

// labelOf is the whole line ahead of a block.
func labelOf(b int) string { return blockWord(b) + ":" }
