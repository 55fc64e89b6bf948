package eslib

// The builtins' numbers.
const (
	toNumber  = 1
	toText    = 2
	toBool    = 3
	isNaN     = 4
	parseInt  = 5
	abs       = 10
	floor     = 11
	ceil      = 12
	greatest  = 13
	least     = 14
	parse     = 20
	stringify = 21
	keys      = 30
	create    = 31
	isAnArray = 40
)

// The numbers of the methods of arrays.
const (
	push         = 50
	pop          = 51
	arraySlice   = 52
	join         = 53
	arrayIndexOf = 54
	concat       = 55
	reverse      = 56
)

// The numbers of the methods of Texts.
const (
	charAt      = 70
	charCodeAt  = 71
	textIndexOf = 72
	substring   = 73
	textSlice   = 74
	toUpperCase = 75
	toLowerCase = 76
	split       = 77
)

// Whose a builtin is. Those between the global object and the methods are of objects that are its properties.
const (
	ofGlobal = iota
	ofMath
	ofJSON
	ofObject
	ofArray
	methodsOfArrays
	methodsOfTexts
	noMethods
)

// A row says what a builtin is called, and whose it is.
type row struct {
	id   int
	name string
	of   int
}

var table = [...]row{
	{toNumber, "Number", ofGlobal}, {toText, "String", ofGlobal}, {toBool, "Boolean", ofGlobal},
	{isNaN, "isNaN", ofGlobal}, {parseInt, "parseInt", ofGlobal},
	{abs, "abs", ofMath}, {floor, "floor", ofMath}, {ceil, "ceil", ofMath},
	{greatest, "max", ofMath}, {least, "min", ofMath},
	{parse, "parse", ofJSON}, {stringify, "stringify", ofJSON},
	{keys, "keys", ofObject}, {create, "create", ofObject},
	{isAnArray, "isArray", ofArray},
	{push, "push", methodsOfArrays}, {pop, "pop", methodsOfArrays}, {arraySlice, "slice", methodsOfArrays},
	{join, "join", methodsOfArrays}, {arrayIndexOf, "indexOf", methodsOfArrays},
	{concat, "concat", methodsOfArrays}, {reverse, "reverse", methodsOfArrays},
	{charAt, "charAt", methodsOfTexts}, {charCodeAt, "charCodeAt", methodsOfTexts},
	{textIndexOf, "indexOf", methodsOfTexts}, {substring, "substring", methodsOfTexts},
	{textSlice, "slice", methodsOfTexts}, {toUpperCase, "toUpperCase", methodsOfTexts},
	{toLowerCase, "toLowerCase", methodsOfTexts}, {split, "split", methodsOfTexts},
}
